/- Part 9 of 29: L03Holds L03Right0 L03Right1 L03Right2 L03Right3 L03Right L08Ints L09Sweep L13Amts L13UOwn L03Entries. -/
import Derived.Test.YtianiiijaopdpaaGreatZy00
import Derived.Test.YtianiiijaopdpaaGreatZy04
import Derived.Shelf.Slices.Empties2
import Derived.Test.YtianiiijaopdpaaGreatShelf
namespace Go.Proofs.YtianiiijaopdpaaGreat
set_option linter.unusedVariables false
set_option linter.unusedSimpArgs false
set_option maxRecDepth 100000
set_option maxHeartbeats 8000000
open _root_.Array renaming getElem?_eq_some_iff → Yu
open _root_.Go.RowKit renaming Below → Zs
open _root_.Go.Proofs.YtianiiijaopdpaaGreat.Blk renaming cell → Yg, new → Zv
open _root_.Go renaming Calls → Zj, Value → Zl, World → Zc
open _root_.Go.Lib renaming hid → Za
open _root_.List renaming eq_nil_of_length_eq_zero → ZU, getD_eq_getElem?_getD → Zq, getElem?_eq_getElem → Zf, getElem?_map → ZP, getElem?_toArray → YL, length_map → YE
open _root_.Nat renaming lt_of_lt_of_le → Ya, zero_add → ZX
open _root_.Go.Proofs.Tryz renaming prog → Zb
open _root_.Go.Value renaming int → ZR
theorem Im {G:Prop}(h:G:=by rw [HN.out]; omega) :G:=h
theorem gm {G:Prop}(h:G:=by rw [List.getElem?_map,List.getD_eq_getElem?_getD,List.getElem?_eq_getElem hj]; rfl) :G:=h
theorem MW {G:Prop} (h:G:=by
  unfold Zk;go_enter Tryz.func34,Tryz.ntmps34;go_wp2_with (first | (go_at_call 82; refine (between_any _ _ _ _).mono ?_; rintro e w' ⟨rfl,rfl⟩));go_ret;exact ⟨JY H.out.symm,(Below.refl _ _).alloc (Nat.le_refl _) _⟩) :G:=h
theorem OS {G:Prop} (h:G:=by
  unfold Zk;go_enter Tryz.func34,Tryz.ntmps34;go_wp2_with (first | (go_at_call 82; refine (between_any _ _ _ _).mono ?_; rintro e w' ⟨rfl,rfl⟩));go_ret;exact ⟨rfl,(Below.refl _ _).alloc (Nat.le_refl _) _⟩) :G:=h
theorem Zgo {G:Prop} (h:G:=by
  go_enter Tryz.func171,Tryz.ntmps171;go_wp2_with (fail);go_quiet (fail);go_wp2_with (fail);go_ret;exact ⟨JY H.out.symm,_,rfl⟩) :G:=h
theorem Zgp {G:Prop} (h:G:=by
  go_enter Tryz.func176,Tryz.ntmps176;go_wp2_with (fail);go_quiet (fail);go_wp2_with (fail);go_ret;exact ⟨JY H.out.symm,_,rfl⟩) :G:=h
theorem ZcC {G:Prop} (h:G:=by
  go_wp2_with (fail);go_quiet ((go_at_call 164; exact Bw (withinU_any _ _ _ _)));go_wp2_with (fail);go_ret;exact ⟨rfl,_,rfl⟩) :G:=h
theorem cN {G:Prop} (h:G:=by
  go_wp2_with (first | (go_at_call 159; refine (withinI_any _ _ _ _).mono ?_; rintro e w' ⟨rfl,rfl⟩));go_ret;exact ⟨rfl,0,rfl⟩) :G:=h
theorem Zgs {G:Prop} (h:G:=by
  go_wp2_with (first | (go_at_call 164; refine (withinU_any _ _ _ _).mono ?_; rintro e w' ⟨rfl,rfl⟩));go_ret;exact ⟨rfl,0,rfl⟩) :G:=h
theorem rN {G:Prop} (h:G:=by
  rcases h.2 with ⟨rfl,rfl⟩ | ⟨g,cp,cur,rfl,_⟩
  ·exact ⟨none,0,rfl⟩
  ·exact ⟨_,cp,rfl⟩) :G:=h
theorem rR {G:Prop} (h:G:=by
  go_enter Tryz.func159,Tryz.ntmps159;go_wp2;go_ret;exact ⟨JY H.out.symm,rfl⟩) :G:=h
theorem rS {G:Prop} (h:G:=by
  go_enter Tryz.func164,Tryz.ntmps164;go_wp2;go_ret;exact ⟨JY H.out.symm,rfl⟩) :G:=h
theorem rT {G:Prop} (h:G:=by
  go_enter Tryz.func277,Tryz.ntmps277;go_wp2;go_ret;exact ⟨by rw [HE.out]; rfl,rfl⟩) :G:=h
theorem rV {G:Prop} (h:G:=by
  go_enter Tryz.func82,Tryz.ntmps82;go_wp2;go_ret;exact ⟨JY H.out.symm,rfl⟩) :G:=h
theorem zB {G:Prop} (h:G:=by
  go_wp2_with (fail);go_quiet (fail);go_wp2_with (fail);go_ret;exact ⟨rfl,_,rfl⟩) :G:=h
theorem se {G:Prop} (h:G:=by
  clear Ku;go_wp2;try rw [Exit.noGoto_ret]
  go_ret2;exact he.out) :G:=h
section
open Go.RowKit
theorem Cb {v lo hi:Int}(h:lo≤v)(h':v≤hi) :Me v lo hi=true:=by unfold Me; simp; omega
theorem Oa {v lo hi:Int}(h:v < lo∨hi < v) :Me v lo hi=false:=by unfold Me; simp; omega
theorem withinI_any (v lo hi:Int)(w:Zc) :
  Zj Zb 159 #[.int .i64 v,.int .i64 lo,.int .i64 hi] w fun e w'=>e= .returned (.bool (Me v lo hi))∧w=w':=by
 by_cases h1:lo≤v
 ·have hd:decide (lo≤v)=true:=by simpa using h1
  by_cases h2:v≤hi
  ·have H:=Za (Cb h1 h2);exact rR
  ·have ve:decide (v≤hi)=false:=by simpa using h2
   have H:=Za (Oa (v:=v) (lo:=lo) (hi:=hi) (.inr Zm));exact rR
 ·have hd:decide (lo≤v)=false:=by simpa using h1
  have H:=Za (Oa (v:=v) (lo:=lo) (hi:=hi) (.inl Zm));exact rR
theorem withinU_any (v lo hi:Int)(w:Zc) :
  Zj Zb 164 #[.int .u64 v,.int .u64 lo,.int .u64 hi] w fun e w'=>e= .returned (.bool (Me v lo hi))∧w=w':=by
 by_cases h1:lo≤v
 ·have hd:decide (lo≤v)=true:=by simpa using h1
  by_cases h2:v≤hi
  ·have H:=Za (Cb h1 h2);exact rS
  ·have ve:decide (v≤hi)=false:=by simpa using h2
   have H:=Za (Oa (v:=v) (lo:=lo) (hi:=hi) (.inr Zm));exact rS
 ·have hd:decide (lo≤v)=false:=by simpa using h1
  have H:=Za (Oa (v:=v) (lo:=lo) (hi:=hi) (.inl Zm));exact rS
theorem between_any (v lo hi:Int)(w:Zc) :
  Zj Zb 82 #[.int .i64 v,.int .i64 lo,.int .i64 hi] w fun e w'=>e= .returned (.bool (Me v lo hi))∧w=w':=by
 by_cases h1:lo≤v
 ·have hd:decide (lo≤v)=true:=by simpa using h1
  by_cases h2:v≤hi
  ·have H:=Za (Cb h1 h2);exact rV
  ·have ve:decide (v≤hi)=false:=by simpa using h2
   have H:=Za (Oa (v:=v) (lo:=lo) (hi:=hi) (.inr Zm));exact rV
 ·have hd:decide (lo≤v)=false:=by simpa using h1
  have H:=Za (Oa (v:=v) (lo:=lo) (hi:=hi) (.inl Zm));exact rV
theorem Za2 (bp bc:Nat)(c:Nat→Int)(w:Zc)(hp:w.cell? ⟨bp,0,none⟩=some (.pointer (some ⟨bc,0,none⟩)))(hc:Blk w bc 24 (Zk c)) :
  Zj Zb 158 #[.pointer (some ⟨bp,0,none⟩)] w fun e w'=>e= .returned (.bool (Yt c 0))∧ ∃n,w'=w.drewN n:=by
 have c0:w.cell? ⟨bc,0,none⟩=some (.int .i64 (c 0)):=Yg hc 0;clear hc;go_enter Tryz.func158,Tryz.ntmps158;exact cN
theorem Za3 (bp bc:Nat)(c:Nat→Int)(w:Zc)(hp:w.cell? ⟨bp,0,none⟩=some (.pointer (some ⟨bc,0,none⟩)))(hc:Blk w bc 24 (Zk c)) :
  Zj Zb 160 #[.pointer (some ⟨bp,0,none⟩)] w fun e w'=>e= .returned (.bool (Yt c 1))∧ ∃n,w'=w.drewN n:=by
 have c1:w.cell? ⟨bc,1,none⟩=some (.int .i64 (c 1)):=Yg hc 1;clear hc;go_enter Tryz.func160,Tryz.ntmps160;exact cN
theorem Za4 (bp bc:Nat)(c:Nat→Int)(w:Zc)(hp:w.cell? ⟨bp,0,none⟩=some (.pointer (some ⟨bc,0,none⟩)))(hc:Blk w bc 24 (Zk c)) :
  Zj Zb 161 #[.pointer (some ⟨bp,0,none⟩)] w fun e w'=>e= .returned (.bool (Yt c 2))∧ ∃n,w'=w.drewN n:=by
 have c2:w.cell? ⟨bc,2,none⟩=some (.int .u64 (c 2)):=Yg hc 2;clear hc;go_enter Tryz.func161,Tryz.ntmps161;go_wp2;go_ret;exact ⟨rfl,0,rfl⟩
theorem Za5 (bp bc:Nat)(c:Nat→Int)(w:Zc)(hp:w.cell? ⟨bp,0,none⟩=some (.pointer (some ⟨bc,0,none⟩)))(hc:Blk w bc 24 (Zk c)) :
  Zj Zb 162 #[.pointer (some ⟨bp,0,none⟩)] w fun e w'=>e= .returned (.bool (Yt c 3))∧ ∃n,w'=w.drewN n:=by
 have c3:w.cell? ⟨bc,3,none⟩=some (.int .u64 (c 3)):=Yg hc 3;have c2:w.cell? ⟨bc,2,none⟩=some (.int .u64 (c 2)):=Yg hc 2;clear hc;go_enter Tryz.func162,Tryz.ntmps162;exact zB
theorem Za6 (bp bc:Nat)(c:Nat→Int)(w:Zc)(hp:w.cell? ⟨bp,0,none⟩=some (.pointer (some ⟨bc,0,none⟩)))(hc:Blk w bc 24 (Zk c)) :
  Zj Zb 163 #[.pointer (some ⟨bp,0,none⟩)] w fun e w'=>e= .returned (.bool (Yt c 4))∧ ∃n,w'=w.drewN n:=by
 have c4:w.cell? ⟨bc,4,none⟩=some (.int .u64 (c 4)):=Yg hc 4;have c3:w.cell? ⟨bc,3,none⟩=some (.int .u64 (c 3)):=Yg hc 3;clear hc;go_enter Tryz.func163,Tryz.ntmps163;exact ZcC
theorem Za7 (bp bc:Nat)(c:Nat→Int)(w:Zc)(hp:w.cell? ⟨bp,0,none⟩=some (.pointer (some ⟨bc,0,none⟩)))(hc:Blk w bc 24 (Zk c)) :
  Zj Zb 165 #[.pointer (some ⟨bp,0,none⟩)] w fun e w'=>e= .returned (.bool (Yt c 5))∧ ∃n,w'=w.drewN n:=by
 have c5:w.cell? ⟨bc,5,none⟩=some (.int .u64 (c 5)):=Yg hc 5;have c2:w.cell? ⟨bc,2,none⟩=some (.int .u64 (c 2)):=Yg hc 2;clear hc;go_enter Tryz.func165,Tryz.ntmps165;exact ZcC
theorem Za8 (bp bc:Nat)(c:Nat→Int)(w:Zc)(hp:w.cell? ⟨bp,0,none⟩=some (.pointer (some ⟨bc,0,none⟩)))(hc:Blk w bc 24 (Zk c)) :
  Zj Zb 166 #[.pointer (some ⟨bp,0,none⟩)] w fun e w'=>e= .returned (.bool (Yt c 6))∧ ∃n,w'=w.drewN n:=by
 have c6:w.cell? ⟨bc,6,none⟩=some (.int .u64 (c 6)):=Yg hc 6;have c3:w.cell? ⟨bc,3,none⟩=some (.int .u64 (c 3)):=Yg hc 3;have c4:w.cell? ⟨bc,4,none⟩=some (.int .u64 (c 4)):=Yg hc 4;clear hc;go_enter Tryz.func166,Tryz.ntmps166;exact ZcC
theorem Za9 (bp bc:Nat)(c:Nat→Int)(w:Zc)(hp:w.cell? ⟨bp,0,none⟩=some (.pointer (some ⟨bc,0,none⟩)))(hc:Blk w bc 24 (Zk c)) :
  Zj Zb 167 #[.pointer (some ⟨bp,0,none⟩)] w fun e w'=>e= .returned (.bool (Yt c 7))∧ ∃n,w'=w.drewN n:=by
 have c7:w.cell? ⟨bc,7,none⟩=some (.int .u64 (c 7)):=Yg hc 7;clear hc;go_enter Tryz.func167,Tryz.ntmps167;exact Zgs
theorem Zba (bp bc:Nat)(c:Nat→Int)(w:Zc)(hp:w.cell? ⟨bp,0,none⟩=some (.pointer (some ⟨bc,0,none⟩)))(hc:Blk w bc 24 (Zk c)) :
  Zj Zb 168 #[.pointer (some ⟨bp,0,none⟩)] w fun e w'=>e= .returned (.bool (Yt c 8))∧ ∃n,w'=w.drewN n:=by
 have c8:w.cell? ⟨bc,8,none⟩=some (.int .u64 (c 8)):=Yg hc 8;clear hc;go_enter Tryz.func168,Tryz.ntmps168;go_wp2;go_ret;exact ⟨rfl,0,rfl⟩
theorem Zbb (bp bc:Nat)(c:Nat→Int)(w:Zc)(hp:w.cell? ⟨bp,0,none⟩=some (.pointer (some ⟨bc,0,none⟩)))(hc:Blk w bc 24 (Zk c)) :
  Zj Zb 169 #[.pointer (some ⟨bp,0,none⟩)] w fun e w'=>e= .returned (.bool (Yt c 9))∧ ∃n,w'=w.drewN n:=by
 have c9:w.cell? ⟨bc,9,none⟩=some (.int .u64 (c 9)):=Yg hc 9;clear hc;go_enter Tryz.func169,Tryz.ntmps169;go_wp2;go_ret;exact ⟨rfl,0,rfl⟩
theorem vl (bp bc:Nat)(c:Nat→Int)(w:Zc)(hp:w.cell? ⟨bp,0,none⟩=some (.pointer (some ⟨bc,0,none⟩)))(hc:Blk w bc 24 (Zk c)) :
  Zj Zb 170 #[.pointer (some ⟨bp,0,none⟩)] w fun e w'=>e= .returned (.bool (Yt c 10))∧ ∃n,w'=w.drewN n:=by
 have c10:w.cell? ⟨bc,10,none⟩=some (.int .i64 (c 10)):=Yg hc 10;clear hc;go_enter Tryz.func170,Tryz.ntmps170;exact cN
theorem vm (bp bc:Nat)(c:Nat→Int)(w:Zc)(hp:w.cell? ⟨bp,0,none⟩=some (.pointer (some ⟨bc,0,none⟩)))(hc:Blk w bc 24 (Zk c)) :
  Zj Zb 171 #[.pointer (some ⟨bp,0,none⟩)] w fun e w'=>e= .returned (.bool (Yt c 11))∧ ∃n,w'=w.drewN n:=by
 have c11:w.cell? ⟨bc,11,none⟩=some (.int .i64 (c 11)):=Yg hc 11;have c10:w.cell? ⟨bc,10,none⟩=some (.int .i64 (c 10)):=Yg hc 10;clear hc
 by_cases h1:c 10 < c 11
 ·have hd:decide (c 10 < c 11)=true:=by simpa using h1
  have H:=Za (show Yt c 11=decide (c 11≤1048576) by simp [Yt,h1]);exact Zgo
 ·have hd:decide (c 10 < c 11)=false:=by simpa using h1
  have H:=Za (show Yt c 11=false by simp [Yt,h1]);exact Zgo
theorem vn (bp bc:Nat)(c:Nat→Int)(w:Zc)(hp:w.cell? ⟨bp,0,none⟩=some (.pointer (some ⟨bc,0,none⟩)))(hc:Blk w bc 24 (Zk c)) :
  Zj Zb 172 #[.pointer (some ⟨bp,0,none⟩)] w fun e w'=>e= .returned (.bool (Yt c 12))∧ ∃n,w'=w.drewN n:=by
 have c12:w.cell? ⟨bc,12,none⟩=some (.int .i64 (c 12)):=Yg hc 12;clear hc;go_enter Tryz.func172,Tryz.ntmps172;exact cN
theorem vo (bp bc:Nat)(c:Nat→Int)(w:Zc)(hp:w.cell? ⟨bp,0,none⟩=some (.pointer (some ⟨bc,0,none⟩)))(hc:Blk w bc 24 (Zk c)) :
  Zj Zb 173 #[.pointer (some ⟨bp,0,none⟩)] w fun e w'=>e= .returned (.bool (Yt c 13))∧ ∃n,w'=w.drewN n:=by
 have c13:w.cell? ⟨bc,13,none⟩=some (.int .i64 (c 13)):=Yg hc 13;clear hc;go_enter Tryz.func173,Tryz.ntmps173;exact cN
theorem vp (bp bc:Nat)(c:Nat→Int)(w:Zc)(hp:w.cell? ⟨bp,0,none⟩=some (.pointer (some ⟨bc,0,none⟩)))(hc:Blk w bc 24 (Zk c)) :
  Zj Zb 174 #[.pointer (some ⟨bp,0,none⟩)] w fun e w'=>e= .returned (.bool (Yt c 14))∧ ∃n,w'=w.drewN n:=by
 have c14:w.cell? ⟨bc,14,none⟩=some (.int .i64 (c 14)):=Yg hc 14;clear hc;go_enter Tryz.func174,Tryz.ntmps174;exact cN
theorem vq (bp bc:Nat)(c:Nat→Int)(w:Zc)(hp:w.cell? ⟨bp,0,none⟩=some (.pointer (some ⟨bc,0,none⟩)))(hc:Blk w bc 24 (Zk c)) :
  Zj Zb 175 #[.pointer (some ⟨bp,0,none⟩)] w fun e w'=>e= .returned (.bool (Yt c 15))∧ ∃n,w'=w.drewN n:=by
 have c15:w.cell? ⟨bc,15,none⟩=some (.int .i64 (c 15)):=Yg hc 15;clear hc;go_enter Tryz.func175,Tryz.ntmps175;exact cN
theorem vr (bp bc:Nat)(c:Nat→Int)(w:Zc)(hp:w.cell? ⟨bp,0,none⟩=some (.pointer (some ⟨bc,0,none⟩)))(hc:Blk w bc 24 (Zk c)) :
  Zj Zb 176 #[.pointer (some ⟨bp,0,none⟩)] w fun e w'=>e= .returned (.bool (Yt c 16))∧ ∃n,w'=w.drewN n:=by
 have c16:w.cell? ⟨bc,16,none⟩=some (.int .i64 (c 16)):=Yg hc 16;have c14:w.cell? ⟨bc,14,none⟩=some (.int .i64 (c 14)):=Yg hc 14;have c15:w.cell? ⟨bc,15,none⟩=some (.int .i64 (c 15)):=Yg hc 15;clear hc
 by_cases h1:0≤c 16
 ·have hd:decide (0≤c 16)=true:=by simpa using h1
  have H:=Za (show Yt c 16=decide (c 16 < min (c 14) (c 15)) by simp [Yt,h1,Int.lt_min]);exact Zgp
 ·have hd:decide (0≤c 16)=false:=by simpa using h1
  have H:=Za (show Yt c 16=false by simp [Yt,h1]);exact Zgp
theorem vt (bp bc:Nat)(c:Nat→Int)(w:Zc)(hp:w.cell? ⟨bp,0,none⟩=some (.pointer (some ⟨bc,0,none⟩)))(hc:Blk w bc 24 (Zk c)) :
  Zj Zb 177 #[.pointer (some ⟨bp,0,none⟩)] w fun e w'=>e= .returned (.bool (Yt c 17))∧ ∃n,w'=w.drewN n:=by
 have c17:w.cell? ⟨bc,17,none⟩=some (.int .i64 (c 17)):=Yg hc 17;clear hc;go_enter Tryz.func177,Tryz.ntmps177;exact cN
theorem vu (bp bc:Nat)(c:Nat→Int)(w:Zc)(hp:w.cell? ⟨bp,0,none⟩=some (.pointer (some ⟨bc,0,none⟩)))(hc:Blk w bc 24 (Zk c)) :
  Zj Zb 178 #[.pointer (some ⟨bp,0,none⟩)] w fun e w'=>e= .returned (.bool (Yt c 18))∧ ∃n,w'=w.drewN n:=by
 have c18:w.cell? ⟨bc,18,none⟩=some (.int .u64 (c 18)):=Yg hc 18;have c19:w.cell? ⟨bc,19,none⟩=some (.int .u64 (c 19)):=Yg hc 19;clear hc;go_enter Tryz.func178,Tryz.ntmps178;exact zB
theorem vv (bp bc:Nat)(c:Nat→Int)(w:Zc)(hp:w.cell? ⟨bp,0,none⟩=some (.pointer (some ⟨bc,0,none⟩)))(hc:Blk w bc 24 (Zk c)) :
  Zj Zb 179 #[.pointer (some ⟨bp,0,none⟩)] w fun e w'=>e= .returned (.bool (Yt c 19))∧ ∃n,w'=w.drewN n:=by
 have c19:w.cell? ⟨bc,19,none⟩=some (.int .u64 (c 19)):=Yg hc 19;clear hc;go_enter Tryz.func179,Tryz.ntmps179;exact Zgs
end
section
open Go.RowKit
theorem ZbY (c:Nat→Int)(w:Zc) :
  Zj Zb 34 #[.agg (Zk c),.int .i64 1] w fun e w'=>e= .returned (.bool (Yt c 0))∧Zs w.heap.size w w':=by
 exact OS
theorem Zb2 (c:Nat→Int)(w:Zc) :
  Zj Zb 34 #[.agg (Zk c),.int .i64 5] w fun e w'=>e= .returned (.bool (Yt c 4))∧Zs w.heap.size w w':=by
 by_cases h1:c 3≤c 4
 ·have hd:decide (c 3≤c 4)=true:=by simpa using h1
  have H:=Za (show Yt c 4=decide (c 4≤1152921504606846976) by simp [Yt,Me,bz,h1]);exact MW
 ·have hd:decide (c 3≤c 4)=false:=by simpa using h1
  have H:=Za (show Yt c 4=false by simp [Yt,Me,h1]);exact MW
theorem Zb6 (c:Nat→Int)(w:Zc) :
  Zj Zb 34 #[.agg (Zk c),.int .i64 9] w fun e w'=>e= .returned (.bool (Yt c 8))∧Zs w.heap.size w w':=by
 exact OS
theorem wG (c:Nat→Int)(w:Zc) :
  Zj Zb 34 #[.agg (Zk c),.int .i64 13] w fun e w'=>e= .returned (.bool (Yt c 12))∧Zs w.heap.size w w':=by
 exact OS
theorem wK (c:Nat→Int)(w:Zc) :
  Zj Zb 34 #[.agg (Zk c),.int .i64 17] w fun e w'=>e= .returned (.bool (Yt c 16))∧Zs w.heap.size w w':=by
 by_cases h1:0≤c 16
 ·have hd:decide (0≤c 16)=true:=by simpa using h1
  by_cases h2:c 16 < c 14
  ·have ve:decide (c 16 < c 14)=true:=by simpa using h2
   have H:=Za (show Yt c 16=decide (c 16 < c 15) by simp [Yt,h1,h2]);exact MW
  ·have ve:decide (c 16 < c 14)=false:=by simpa using h2
   have H:=Za (show Yt c 16=false by simp [Yt,h2]);exact MW
 ·have hd:decide (0≤c 16)=false:=by simpa using h1
  have H:=Za (show Yt c 16=false by simp [Yt,h1]);exact MW
end
section
open Go.RowKit
theorem ZbZ (c:Nat→Int)(w:Zc) :
  Zj Zb 34 #[.agg (Zk c),.int .i64 2] w fun e w'=>e= .returned (.bool (Yt c 1))∧Zs w.heap.size w w':=by
 exact OS
theorem Zb3 (c:Nat→Int)(w:Zc) :
  Zj Zb 34 #[.agg (Zk c),.int .i64 6] w fun e w'=>e= .returned (.bool (Yt c 5))∧Zs w.heap.size w w':=by
 by_cases h1:1≤c 5
 ·have hd:decide (1≤c 5)=true:=by simpa using h1
  have H:=Za (show Yt c 5=decide (c 5≤c 2) by simp [Yt,Me,h1]);exact MW
 ·have hd:decide (1≤c 5)=false:=by simpa using h1
  have H:=Za (show Yt c 5=false by simp [Yt,Me,h1]);exact MW
theorem Zb7 (c:Nat→Int)(w:Zc) :
  Zj Zb 34 #[.agg (Zk c),.int .i64 10] w fun e w'=>e= .returned (.bool (Yt c 9))∧Zs w.heap.size w w':=by
 exact OS
theorem wH (c:Nat→Int)(w:Zc) :
  Zj Zb 34 #[.agg (Zk c),.int .i64 14] w fun e w'=>e= .returned (.bool (Yt c 13))∧Zs w.heap.size w w':=by
 exact OS
theorem wL (c:Nat→Int)(w:Zc) :
  Zj Zb 34 #[.agg (Zk c),.int .i64 18] w fun e w'=>e= .returned (.bool (Yt c 17))∧Zs w.heap.size w w':=by
 exact OS
end
section
open Go.RowKit
theorem Zb0 (c:Nat→Int)(w:Zc) :
  Zj Zb 34 #[.agg (Zk c),.int .i64 3] w fun e w'=>e= .returned (.bool (Yt c 2))∧Zs w.heap.size w w':=by
 exact OS
theorem Zb4 (c:Nat→Int)(w:Zc) :
  Zj Zb 34 #[.agg (Zk c),.int .i64 7] w fun e w'=>e= .returned (.bool (Yt c 6))∧Zs w.heap.size w w':=by
 by_cases h1:c 3≤c 6
 ·have hd:decide (c 3≤c 6)=true:=by simpa using h1
  have H:=Za (show Yt c 6=decide (c 6≤c 4) by simp [Yt,Me,h1]);exact MW
 ·have hd:decide (c 3≤c 6)=false:=by simpa using h1
  have H:=Za (show Yt c 6=false by simp [Yt,Me,h1]);exact MW
theorem wE (c:Nat→Int)(w:Zc) :
  Zj Zb 34 #[.agg (Zk c),.int .i64 11] w fun e w'=>e= .returned (.bool (Yt c 10))∧Zs w.heap.size w w':=by
 exact OS
theorem wI (c:Nat→Int)(w:Zc) :
  Zj Zb 34 #[.agg (Zk c),.int .i64 15] w fun e w'=>e= .returned (.bool (Yt c 14))∧Zs w.heap.size w w':=by
 exact OS
theorem wM (c:Nat→Int)(w:Zc) :
  Zj Zb 34 #[.agg (Zk c),.int .i64 19] w fun e w'=>e= .returned (.bool (Yt c 18))∧Zs w.heap.size w w':=by
 exact OS
end
section
open Go.RowKit
theorem Zb1 (c:Nat→Int)(w:Zc) :
  Zj Zb 34 #[.agg (Zk c),.int .i64 4] w fun e w'=>e= .returned (.bool (Yt c 3))∧Zs w.heap.size w w':=by
 exact OS
theorem Zb5 (c:Nat→Int)(w:Zc) :
  Zj Zb 34 #[.agg (Zk c),.int .i64 8] w fun e w'=>e= .returned (.bool (Yt c 7))∧Zs w.heap.size w w':=by
 by_cases h1:1≤c 7
 ·have hd:decide (1≤c 7)=true:=by simpa using h1
  have H:=Za (show Yt c 7=decide (c 7≤1152921504606846976) by simp [Yt,Me,bz,h1]);exact MW
 ·have hd:decide (1≤c 7)=false:=by simpa using h1
  have H:=Za (show Yt c 7=false by simp [Yt,Me,h1]);exact MW
theorem wF (c:Nat→Int)(w:Zc) :
  Zj Zb 34 #[.agg (Zk c),.int .i64 12] w fun e w'=>e= .returned (.bool (Yt c 11))∧Zs w.heap.size w w':=by
 by_cases h1:c 10 < c 11
 ·have hd:decide (c 10 < c 11)=true:=by simpa using h1
  have H:=Za (show Yt c 11=decide (c 11≤1048576) by simp [Yt,h1]);exact MW
 ·have hd:decide (c 10 < c 11)=false:=by simpa using h1
  have H:=Za (show Yt c 11=false by simp [Yt,h1]);exact MW
theorem wJ (c:Nat→Int)(w:Zc) :
  Zj Zb 34 #[.agg (Zk c),.int .i64 16] w fun e w'=>e= .returned (.bool (Yt c 15))∧Zs w.heap.size w w':=by
 exact OS
theorem wN (c:Nat→Int)(w:Zc) :
  Zj Zb 34 #[.agg (Zk c),.int .i64 20] w fun e w'=>e= .returned (.bool (Yt c 19))∧Zs w.heap.size w w':=by
 by_cases h1:1≤c 19
 ·have hd:decide (1≤c 19)=true:=by simpa using h1
  have H:=Za (show Yt c 19=decide (c 19≤4294967296) by simp [Yt,Me,h1]);exact MW
 ·have hd:decide (1≤c 19)=false:=by simpa using h1
  have H:=Za (show Yt c 19=false by simp [Yt,Me,h1]);exact MW
end
section
open Go.RowKit
theorem Ap (c:Nat→Int)(k:Nat)(hk:k < 20)(w:Zc) :
  Zj Zb 34 #[.agg (Zk c),.int .i64 ((k:Int)+1)] w fun e w'=>e= .returned (.bool (Yt c k))∧Zs w.heap.size w w':=by
 have:k=0∨k=1∨k=2∨k=3∨k=4∨k=5∨k=6∨k=7∨k=8∨k=9∨k=10∨k=11∨k=12∨k=13∨k=14∨k=15∨k=16∨k=17∨k=18∨k=19:=by omega
 rcases this with rfl | rfl | rfl | rfl | rfl | rfl | rfl | rfl | rfl | rfl | rfl | rfl | rfl | rfl | rfl | rfl | rfl | rfl | rfl | rfl
 ·exact ZbY c w
 ·exact ZbZ c w
 ·exact Zb0 c w
 ·exact Zb1 c w
 ·exact Zb2 c w
 ·exact Zb3 c w
 ·exact Zb4 c w
 ·exact Zb5 c w
 ·exact Zb6 c w
 ·exact Zb7 c w
 ·exact wE c w
 ·exact wF c w
 ·exact wG c w
 ·exact wH c w
 ·exact wI c w
 ·exact wJ c w
 ·exact wK c w
 ·exact wL c w
 ·exact wM c w
 ·exact wN c w
end
section
open Go.RowKit
theorem pQ:(Tryz.prog.info? 3).map (fun i=>(i.zero,i.size,i.bytes))=some (some (.int .i64 0),1,8):=by kernel_rfl
def JU (w:Zc)(S:Nat→Prop)(a:Option Addr)(L:List Int) :Prop:=
 0 < L.length→ ∃b off,a=some ⟨b,off,none⟩∧ ¬S b∧b < w.heap.size∧ ∀j,j < L.length→w.cell? ⟨b,off+j,none⟩=some (.int .i64 (L.getD j 0))
section
variable {w w':Zc} {S T:Nat→Prop} {a:Option Addr} {L:List Int}
theorem JU.nil (w:Zc)(S:Nat→Prop)(a:Option Addr) :JU w S a []:=fun h=>by simp at h
theorem JU.kept (h:JU w S a L)(k:Kept T w w')(hT: ∀i,i < w.heap.size→T i→S i) :JU w' S a L:=fun hl=>by
 obtain ⟨b,off,e,hn,hb,hc⟩:=h hl;exact ⟨b,off,e,hn,Ya hb k.size,fun j hj=>k.cell (fun ht=>hn (hT _ hb ht)) (hc j hj)⟩
theorem JU.below (h:JU w S a L)(hb:Zs w.heap.size w w') :JU w' S a L:=fun hl=>by
 obtain ⟨b,off,e,hn,GJ,hc⟩:=h hl;exact ⟨b,off,e,hn,Ya GJ hb.size,fun j hj=>(hb.cell (p:=⟨b,off+j,none⟩) GJ).trans (hc j hj)⟩
theorem JU.drewN (h:JU w S a L)(n:Nat) :JU (w.drewN n) S a L:=h
theorem JU.of_blk {g:Nat}{t:TypeId}(h:Blk w g t (L.map (ZR .i64)).toArray)(hn: ¬S g) :JU w S (some ⟨g,0,none⟩) L:=fun hl=>
 ⟨g,0,rfl,hn,h.lt,fun j hj=>by
  rw [ZX,h.cell,YL,ZP,Zq,Zf hj];rfl⟩
theorem dR (a1 a2:Option Addr)(n c m d:Nat)(w:Zc)(iC:n≠m) :
  Zj Zb 49 #[.slice a1 n c,.slice a2 m d] w fun e w'=>e= .returned (.bool false)∧w'=w:=Any.slices_Equal_int_lens Tryz.lays111 a1 a2 n c m d w iC
theorem kz {a2:Option Addr}{L2:List Int}{c d n m:Nat}{S2:Nat→Prop}(h1:JU w S a L)(h2:JU w S2 a2 L2)(hn:L.length=n)(hm:L2.length=m)(bn:n≤9223372036854775807)(bm:m≤9223372036854775807) :
  Zj Zb 49 #[.slice a n c,.slice a2 m d] w fun e w'=>e= .returned (.bool (decide (L=L2)))∧ ∃q,w'=w.drewN q:=by
 subst hn hm
 by_cases e:L.length=L2.length
 ·by_cases h0:L.length=0
  ·have x1:L=[]:=ZU h0;have x2:L2=[]:=ZU Zm;subst x1 x2;exact (Tryz.slices_Equal_int_empty a a2 c 0 d w Zm).mono fun e w' ⟨he,hw⟩=>⟨by simpa using he,0,hw⟩
  ·obtain ⟨b1,o1,rfl,_,_,c1⟩:=h1 Zm;obtain ⟨b2',o2,rfl,_,_,c2⟩:=h2 Zm;exact (Tryz.slices_Equal_int b1 o1 L.length c b2' o2 L2.length d L L2 w Zm Zm bn bm c1 c2).mono fun e w' ⟨he,hw⟩=>⟨by rw [he,List.take_length,List.take_length]; exact JY (by rw [Bool.eq_iff_iff]; simp),hw⟩
 ·exact (dR a a2 L.length c L2.length d w e).mono fun e' w' ⟨he,hw⟩=>⟨by rw [he]; exact JY (by symm; simp; rintro rfl; exact e rfl),0,hw⟩
theorem dS {a2:Option Addr}{c d n:Nat}{S2:Nat→Prop}(h1:JU w S a L)(h2:JU w S2 a2 L)(hn:L.length=n)(b1:n≤9223372036854775807) :
  Zj Zb 49 #[.slice a n c,.slice a2 n d] w fun e w'=>e= .returned (.bool true)∧ ∃q,w'=w.drewN q:=by
 have:=kz h1 h2 hn hn b1 b1 (c:=c) (d:=d);simpa using this
theorem VU {base n:Nat}{v:Zl}(h:w.ownsRow base 3 1 v n (L.map (ZR .i64)))(hS: ∀i,v.ownBlock=some i→ ¬S i) : ∃a cp,v= .slice a n cp∧L.length=n∧n≤cp∧cp≤maxLen∧JU w S a L:=by
 have hl:=h.1;rw [YE,Nat.mul_one] at hl
 rcases h.2 with ⟨rfl,h2⟩ | ⟨g,cp,cur,rfl,h1,h3,h4,h5,h6,h7⟩
 ·subst h2;obtain rfl:=ZU hl;exact ⟨none,0,rfl,rfl,by omega,by unfold maxLen; omega,JU.nil _ _ _⟩
 ·refine ⟨_,cp,rfl,hl,h4,h5,fun h0=>⟨g,0,rfl,hS g rfl,(Yu.1 h3).1,fun j hj=>?_⟩⟩;have:=h.cells (g:=g) rfl j (.int .i64 (L.getD j 0)) gm;rwa [add_plain] at this
theorem LK: ∃i,Tryz.prog.info? 3=some i∧i.zero=some (.int .i64 0)∧i.size=1∧i.bytes=8:=by
 have h:=pQ
 cases hi:Tryz.prog.info? 3 with
 | none=>rw [hi] at h; cases h
 | some i=>
  rw [hi] at h;simp at h;exact ⟨i,rfl,h.1,h.2.1,h.2.2⟩
end
end
section
open Go Go.RowKit
def Mc (w:Zc)(S:Nat→Prop)(a:Option Addr)(L:List Bool) :Prop:=
 0 < L.length→ ∃b off,a=some ⟨b,off,none⟩∧ ¬S b∧b < w.heap.size∧ ∀j,j < L.length→w.cell? ⟨b,off+j,none⟩=some (.bool (L.getD j false))
section
variable {w w':Zc} {S T:Nat→Prop} {a:Option Addr} {L:List Bool}
theorem Mc.kept (h:Mc w S a L)(k:Kept T w w')(hT: ∀i,i < w.heap.size→T i→S i) :Mc w' S a L:=fun hl=>by
 obtain ⟨b,off,e,hn,hb,hc⟩:=h hl;exact ⟨b,off,e,hn,Ya hb k.size,fun j hj=>k.cell (fun ht=>hn (hT _ hb ht)) (hc j hj)⟩
theorem Mc.below (h:Mc w S a L)(hb:Zs w.heap.size w w') :Mc w' S a L:=fun hl=>by
 obtain ⟨b,off,e,hn,GJ,hc⟩:=h hl;exact ⟨b,off,e,hn,Ya GJ hb.size,fun j hj=>(hb.cell (p:=⟨b,off+j,none⟩) GJ).trans (hc j hj)⟩
theorem Mc.of_blk {g:Nat}{t:TypeId}(h:Blk w g t (L.map Value.bool).toArray)(hn: ¬S g) :Mc w S (some ⟨g,0,none⟩) L:=fun hl=>
 ⟨g,0,rfl,hn,h.lt,fun j hj=>by
  rw [ZX,h.cell,YL,ZP,Zq,Zf hj];rfl⟩
end
theorem EX {w w':Zc}{S:Nat→Prop}{base n size:Nat}{e:TypeId}{v:Zl}{xs:List Zl}(h:w.ownsRow base e size v n xs)(k:Kept S w w')(hn: ∀g,v.ownBlock=some g→ ¬S g) :w'.ownsRow base e size v n xs:=by
 obtain ⟨h1,h2⟩:=h;refine ⟨h1,?_⟩
 rcases h2 with h2 | ⟨g,cap,cur,rfl,h3,h4,h5⟩
 ·exact .inl h2
 ·exact .inr ⟨g,cap,cur,rfl,h3,Blk.kept (w:=w) h4 k (hn g rfl),h5⟩
theorem qw {w:Zc}{base n:Nat}{v:Zl}{xs:List Zl}(h:w.ownsRow base 3 1 v n xs) : ∃a cp,v= .slice a n cp:=by
 exact rN
def Wy (w:Zc)(c s:Nat)(L:List Bool)(v p:Int)(e:Ending)(w':Zc) :Prop:=
 ∃(m:Nat) (a:Option Addr) (cp:Nat),e= .returned (.tuple #[.slice a (KS L s m).length cp,.int .i64 m])∧M6 L s v p m∧Hid (JU w' (fun i=>i < w.heap.size) a (KS L s m))∧Hid (mF w' c (DN L.length s m))∧Kept (fun i=>i=c) w w'
theorem mq (c s:Nat)(a:Option Addr)(cap:Nat)(L:List Bool)(v p:Int)(w:Zc)(hc:mF w c s)(hs:s≤100)(hL:L.length≤100)(hb:Mc w (fun i=>i=c) a L) :
  Zj Zb 270 #[.pointer (some ⟨c,0,none⟩),.slice a L.length cap,.int .i64 v,.int .i64 p] w (Wy w c s L v p):=by
 obtain ⟨i0,hi,BM,BG,Mn⟩:=LK;obtain ⟨n,hn⟩ : ∃n,L.length=n:=⟨_,rfl⟩;rw [hn] at hL;rw [hn];have HN:=Za hn;have HC:=Za hc;have HB:=Za hb;have H:=Za (fun w=>bg c n w);have ES:=hc.lt;clear hn hc hb;go_enter Tryz.func270,Tryz.ntmps270;go_wp2;go_step3;go_wp2_with fail;refine (H.out _).mono ?_;rintro e w1 ⟨rfl,rfl⟩;go_wp2_with fail;go_step3;go_wp2;have HP:Hid (Blk ((w.alloc (.cells #[.pointer (some ⟨c,0,none⟩)] 90)).alloc (.cells #[.int .i64 n] 3)) w.heap.size 90 #[.pointer (some ⟨c,0,none⟩)]):=Za ((Zv w _ _).alloc _);have HQ:Hid (Blk ((w.alloc (.cells #[.pointer (some ⟨c,0,none⟩)] 90)).alloc (.cells #[.int .i64 n] 3)) (w.heap.size+1) 3 #[.int .i64 n]):=Za (by have:=Zv (w.alloc (.cells #[.pointer (some ⟨c,0,none⟩)] 90)) 3 #[.int .i64 (n:Int)]; simpa using this);have HK:Hid (Kept (fun i=>i=c) w ((w.alloc (.cells #[.pointer (some ⟨c,0,none⟩)] 90)).alloc (.cells #[.int .i64 n] 3))∧w.heap.size+2≤((w.alloc (.cells #[.pointer (some ⟨c,0,none⟩)] 90)).alloc (.cells #[.int .i64 n] 3)).heap.size):=Za ⟨((Kept.refl _ w).alloc _).alloc _,by simp⟩;have xY:=Za ((HC.out.alloc (.cells #[.pointer (some ⟨c,0,none⟩)] 90)).alloc (.cells #[.int .i64 (n:Int)] 3));clear HC H;generalize hz:w.heap.size=z at*;have HZ:=Za hz;clear hz;go_loopg [10,11] n (fun g s10 s11 wr=> ∃(k q:Nat) (a1:Option Addr) (c1:Nat),k+g=n∧q≤k∧s10= .slice a1 q c1∧s11= .int .i64 k∧Hid ((KS L s k).length=q∧wr.ownsRow (z+2) 3 1 (.slice a1 q c1) q ((KS L s k).map (ZR .i64)))∧
  Hid (∀j,j < k→(j:Int)< v∧j < n∧((J4 L s j).length:Int)< p)∧Hid (mF wr c (DN n s k))∧Hid (Blk wr z 90 #[.pointer (some ⟨c,0,none⟩)]∧Blk wr (z+1) 3 #[.int .i64 n])∧Hid (Kept (fun i=>i=c) w wr∧z+2≤wr.heap.size))
 case atStart=>exact ⟨0,0,none,0,by omega,by omega,rfl,rfl,Za ⟨rfl,World.ownsRow_nil _ _ _ _⟩,Za (fun j hj=>by omega),xY,Za ⟨HP.out,HQ.out⟩,HK⟩
 case round=>
  obtain ⟨k,q,a1,c1,hkg,hqk,rfl,rfl,HO,HS,HC,HBL,HKK⟩:=hrel;clear xY HP HQ HK;have Ku: ∀m,m=k→(v≤(k:Int)∨n≤k∨p≤(q:Int))→Wy w c s L v p (.returned (.tuple #[.slice a1 q c1,.int .i64 k])) wr:=by
   rintro m rfl Um;have h1:=HO.out.1;obtain ⟨a2,c2,e,_,_,_,UR⟩:=VU (S:=fun i=>i < w.heap.size) HO.out.2 (fun i hi=>by
    have:=HO.out.2.2
    rcases this with ⟨e,_⟩ | ⟨g,cp,cur,e,hb,_⟩
    ·rw [e] at hi; cases hi
    ·rw [e] at hi; injection hi with hi; subst hi; have hb':z+2≤g:=hb; show ¬g < _; rw [HZ.out]; omega)
   injection e with e1 _ e2;subst e1 e2;refine ⟨m,a1,c1,by rw [h1],⟨by rw [HN.out,←Ai,h1]; exact Um,by rw [HN.out]; exact HS.out⟩,Za UR,Za (by rw [HN.out]; exact HC.out),HKK.out.1⟩
  by_cases h1:v≤(k:Int)
  ·have he:=Za (Ku k rfl (.inl h1));exact se
  by_cases h2:n≤k
  ·have he:=Za (Ku k rfl (.inr (.inl h2)));exact se
  by_cases h3:p≤(q:Int)
  ·have he:=Za (Ku k rfl (.inr (.inr h3)));exact se
  clear Ku;obtain ⟨i,Mh⟩ : ∃i,(s+k)%n=i:=⟨_,rfl⟩;have Fz:i < n:=by rw [←Mh]; exact Nat.mod_lt _ Zm
  have H1:Hid (Zj Zb 320 #[.pointer (some ⟨z,0,none⟩),.pointer (some ⟨z+1,0,none⟩)] wr fun e w'=>e= .returned (.int .i64 (i:Int))∧Hid (mF w' c (DN n s (k+1)))∧Hid (Kept (fun i=>i=c) wr w')):=Za (by
   refine (bC z (z+1) c (DN n s k) n wr HBL.out.1 HBL.out.2 HC.out (wh Zm hs Zm) Zm Zm).mono ?_;rintro e w' ⟨he,h2,h3⟩;rw [qI] at he h2;rw [lK] at h2;exact ⟨by rw [he,Mh],Za h2,Za h3⟩)
  have HI:=Za Mh;clear Mh;obtain ⟨b,off,ha,hbc,O0,GS⟩:=HB.out Im;subst ha;have hx:=GS i Im;obtain ⟨r,hr⟩ : ∃r,L.getD i false=r:=⟨_,rfl⟩;rw [hr] at hx;have HR:=Za hr;have HX:=Za hx;clear GS hx hr;have jI:Hid (∀j,j < k+1→(j:Int)< v∧j < n∧((J4 L s j).length:Int)< p):=Za (by
   have:=rh (L:=L) (s:=s) (v:=v) (p:=p) (m:=k) (by rw [HN.out]; exact HS.out) Zm Im (by rw [←Ai,HO.out.1]; omega);rw [HN.out] at this;exact this)
  go_wp2_with fail;refine H1.out.mono ?_;rintro e w1 ⟨rfl,xY,L4⟩;have iH:w1.cell? ⟨b,off+i,none⟩=some (.bool r):=L4.out.cell hbc (HKK.out.1.cell hbc HX.out);have TP:Hid (w1.ownsRow (z+2) 3 1 (.slice a1 q c1) q ((KS L s k).map (ZR .i64))):=Za (EX HO.out.2 L4.out (fun g hg e=>by
   have:=(HO.out.2.lt g hg).1;omega))
  have tF:Hid (Blk w1 z 90 #[.pointer (some ⟨c,0,none⟩)]∧Blk w1 (z+1) 3 #[.int .i64 n]):=Za ⟨HBL.out.1.kept L4.out Zm,HBL.out.2.kept L4.out Zm⟩;have ng:Hid (Kept (fun i=>i=c) w w1∧z+2≤w1.heap.size):=Za ⟨HKK.out.1.trans L4.out (fun _ _ h=>h),Nat.le_trans HKK.out.2 L4.out.size⟩;have HL:=Za HO.out.1;clear HC HBL HKK HO HX L4 H1 HS
  cases r
  ·have HM:Hid ((KS L s (k+1)).length=q∧KS L s (k+1)=KS L s k):=Za (by
    have:=fe (L:=L) (s:=s) (k:=k) (by rw [HN.out,HI.out]; exact HR.out);exact ⟨by rw [this]; exact HL.out,this⟩)
   have N4:Hid ((KS L s (k+1)).length=q∧w1.ownsRow (z+2) 3 1 (.slice a1 q c1) q ((KS L s (k+1)).map (ZR .i64))):=Za ⟨HM.out.1,by rw [HM.out.2]; exact TP.out⟩;clear TP HM HR HL;go_wp2;go_roundg (gk - 1)
   case measure=>omega
   case rel=>exact ⟨k+1,q,a1,c1,by omega,by omega,rfl,by go_num,N4,jI,xY,tF,ng⟩
  ·have HM:Hid ((KS L s (k+1)).length=q+1∧KS L s (k+1)=KS L s k++[(i:Int)]):=Za (by
    have:=lB (L:=L) (s:=s) (k:=k) (by rw [HN.out,HI.out]; exact HR.out);rw [HN.out,HI.out] at this;exact ⟨by rw [this,List.length_append,HL.out]; rfl,this⟩)
   go_wp2_with (at_builtin; refine wpList_append_own _ rfl _ _ 47 rfl (z+2) 3 i0 (.int .i64 0) 1 8 Tryz.underlying47 hi BM BG Mn rfl YU _ _ _ rfl (TP.out.alloc _) ⟨w1.heap.size,0,none⟩ 1 1 [.int .i64 (i:Int)] rfl rfl ?c1 ?c2 ?c3 ?c4 ?c5 ?_)
   case c1=>
    intro j u hj
    match j,hj with
    | 0,hj=>simp at hj; subst hj; simp [Addr.add]
   case c2=>intro u hu; simp at hu; subst hu; rfl
   case c3=>unfold maxLen; omega
   case c4=>omega
   case c5=>have:=ng.out.2; simp; omega
   intro v' w2 hown2 FY _;have yL:Blk w2 z 90 #[.pointer (some ⟨c,0,none⟩)]∧Blk w2 (z+1) 3 #[.int .i64 n]∧mF w2 c (DN n s (k+1))∧Kept (fun i=>i=c) w w2∧z+2≤w2.heap.size:=by
    have KF: ∀i,i < z+2→some i≠(Value.slice a1 q c1).ownBlock:=fun i hi e=>by
     have:=(TP.out.lt i e.symm).1;omega
    have Er:=FY.size;refine ⟨((tF.out.1.alloc _).grown FY (KF z Zm)),((tF.out.2.alloc _).grown FY (KF (z+1) Zm)),(Blk.grown (Blk.alloc xY.out _) FY (KF c Zm)),?_,?_⟩
    ·have k1:Kept (fun i=>z≤i) w1 w2:=((Kept.refl _ w1).alloc _).trans (Kept.of_grown (S:=fun i=>z≤i) FY (fun i e=>by
      have:=(TP.out.lt i e.symm).1;omega)) (fun _ _ h=>h)
     exact ng.out.1.trans k1 (fun i h1 h2=>by rw [HZ.out] at h1; omega)
    ·have:=ng.out.2;simp at Er;omega
   have HBL2:Hid (Blk w2 z 90 #[.pointer (some ⟨c,0,none⟩)]∧Blk w2 (z+1) 3 #[.int .i64 n]):=Za ⟨yL.1,yL.2.1⟩;have sH:Hid (mF w2 c (DN n s (k+1))):=Za yL.2.2.1;have HKK2:Hid (Kept (fun i=>i=c) w w2∧z+2≤w2.heap.size):=Za yL.2.2.2;obtain ⟨a2,c2,rfl⟩:=qw hown2;have N4:Hid ((KS L s (k+1)).length=q+1∧w2.ownsRow (z+2) 3 1 (.slice a2 (q+1) c2) (q+1) ((KS L s (k+1)).map (ZR .i64))):=Za ⟨HM.out.1,by rw [HM.out.2,List.map_append]; exact hown2⟩;clear yL FY hown2 TP HM HR HL tF xY ng iH;go_wp2;go_roundg (gk - 1)
   case measure=>omega
   case rel=>exact ⟨k+1,q+1,a2,c2,by omega,by omega,rfl,by go_num,N4,jI,sH,HBL2,HKK2⟩
end
section
open Go Go.RowKit Go.Lib
def NY (w:Zc)(S:Nat→Prop)(a:Option Addr)(L:List Int) :Prop:=
 0 < L.length→ ∃b off,a=some ⟨b,off,none⟩∧ ¬S b∧b < w.heap.size∧ ∀j,j < L.length→w.cell? ⟨b,off+j,none⟩=some (.int .u64 (L.getD j 0))
def LZ (L:List Int) :Prop:= ∀j,0≤L.getD j 0∧L.getD j 0≤18446744073709551615
def KM (L:List Int)(i:Int) :Int:=if 0≤i∧i < (L.length:Int) then L.getD i.toNat 0 else 0
section
variable {w w':Zc} {S T:Nat→Prop} {a:Option Addr} {L:List Int}
theorem NY.nil (w:Zc)(S:Nat→Prop)(a:Option Addr) :NY w S a []:=fun h=>by simp at h
theorem NY.kept (h:NY w S a L)(k:Kept T w w')(hT: ∀i,i < w.heap.size→T i→S i) :NY w' S a L:=fun hl=>by
 obtain ⟨b,off,e,hn,hb,hc⟩:=h hl;exact ⟨b,off,e,hn,Ya hb k.size,fun j hj=>k.cell (fun ht=>hn (hT _ hb ht)) (hc j hj)⟩
theorem NY.below (h:NY w S a L)(hb:Zs w.heap.size w w') :NY w' S a L:=fun hl=>by
 obtain ⟨b,off,e,hn,GJ,hc⟩:=h hl;exact ⟨b,off,e,hn,Ya GJ hb.size,fun j hj=>(hb.cell (p:=⟨b,off+j,none⟩) GJ).trans (hc j hj)⟩
theorem NY.drewN (h:NY w S a L)(n:Nat) :NY (w.drewN n) S a L:=h
theorem NY.of_blk {g:Nat}{t:TypeId}(h:Blk w g t (L.map (ZR .u64)).toArray)(hn: ¬S g) :NY w S (some ⟨g,0,none⟩) L:=fun hl=>
 ⟨g,0,rfl,hn,h.lt,fun j hj=>by
  rw [ZX,h.cell,YL,ZP,Zq,Zf hj];rfl⟩
theorem je {i:Int}(h:i < 0∨(L.length:Int)≤i) :KM L i=0:=by rw [KM,if_neg Zm]
theorem Zcl {k:Nat}(h:k < L.length) :KM L k=L.getD k 0:=by rw [KM,if_pos Zm]; simp
theorem NO (h:LZ L)(i:Int) :0≤KM L i∧KM L i≤18446744073709551615:=by
 unfold KM
 split
 ·exact h _
 ·exact ⟨by decide,by decide⟩
theorem Tx (cap:Nat)(i:Int)(w:Zc)(h:NY w S a L)(hl:L.length≤9223372036854775807) :
  Zj Zb 277 #[.slice a L.length cap,.int .i64 i] w fun e w'=>e= .returned (.int .u64 (KM L i))∧w=w':=by
 by_cases h1:i < 0
 ·have HE:=Za (je (L:=L) (.inl h1));exact rT
 ·by_cases h2:(L.length:Int)≤i
  ·have HE:=Za (je (L:=L) (.inr h2));exact rT
  ·obtain ⟨k,rfl,hk⟩ : ∃k:Nat,i=k∧k < L.length:=⟨i.toNat,by omega,by omega⟩;have he:=Zcl hk;obtain ⟨b,off,rfl,_,_,hc⟩:=h Zm;have GS:=hc k hk;generalize L.getD k 0=x at GS he;have HE:=Za he;clear hc he;exact rT
end
end
section
open Go Go.RowKit
section
variable {w:Zc} {S:Nat→Prop} {L:List Int} {a:Option Addr} {n:Nat}
theorem Fq {base n:Nat}{v:Zl}(h:w.ownsRow base 22 1 v n (L.map (ZR .u64)))(hS: ∀i,v.ownBlock=some i→ ¬S i) : ∃a cp,v= .slice a n cp∧L.length=n∧n≤cp∧NY w S a L:=by
 have hl:=h.1;rw [YE,Nat.mul_one] at hl
 rcases h.2 with ⟨rfl,h2⟩ | ⟨g,cp,cur,rfl,h1,h3,h4,h5,h6,h7⟩
 ·subst h2;obtain rfl:=ZU hl;exact ⟨none,0,rfl,rfl,by omega,NY.nil _ _ _⟩
 ·refine ⟨_,cp,rfl,hl,h4,fun h0=>⟨g,0,rfl,hS g rfl,(Yu.1 h3).1,fun j hj=>?_⟩⟩;have:=h.cells (g:=g) rfl j (.int .u64 (L.getD j 0)) gm;rwa [add_plain] at this
theorem JU.take (h:JU w S a L)(hn:n≤L.length) :JU w S a (L.take n):=fun h0=>by
 have hl:(L.take n).length=n:=by simp; omega
 rw [hl] at h0 ⊢;obtain ⟨b,off,e,hs,hb,hc⟩:=h Zm;refine ⟨b,off,e,hs,hb,fun j hj=>?_⟩;rw [hc j Zm];simp [Zq,List.getElem?_take_of_lt hj]
end
end
section
open Go.RowKit
def Br (bp bc:Nat) :Array Zl:= #[.pointer (some ⟨bc,0,none⟩),.pointer none,.func (.func 158) #[] #[.pointer (some ⟨bp,0,none⟩)],.pointer (some ⟨bc,1,none⟩),.pointer none,.func (.func 160) #[] #[.pointer (some ⟨bp,0,none⟩)],.pointer none,.pointer (some ⟨bc,2,none⟩),.func (.func 161) #[] #[.pointer (some ⟨bp,0,none⟩)],.pointer none,.pointer (some ⟨bc,3,none⟩),.func (.func 162) #[] #[.pointer (some ⟨bp,0,none⟩)],.pointer none,.pointer (some ⟨bc,4,none⟩),.func (.func 163) #[] #[.pointer (some ⟨bp,0,none⟩)],.pointer none,.pointer (some ⟨bc,5,none⟩),.func (.func 165) #[] #[.pointer (some ⟨bp,0,none⟩)],.pointer none,.pointer (some ⟨bc,6,none⟩),.func (.func 166) #[] #[.pointer (some ⟨bp,0,none⟩)],.pointer none,.pointer (some ⟨bc,7,none⟩),.func (.func 167) #[] #[.pointer (some ⟨bp,0,none⟩)],.pointer none,.pointer (some ⟨bc,8,none⟩),.func (.func 168) #[] #[.pointer (some ⟨bp,0,none⟩)],.pointer none,.pointer (some ⟨bc,9,none⟩),.func (.func 169) #[] #[.pointer (some ⟨bp,0,none⟩)],.pointer (some ⟨bc,10,none⟩),.pointer none,.func (.func 170) #[] #[.pointer (some ⟨bp,0,none⟩)],.pointer (some ⟨bc,11,none⟩),.pointer none,.func (.func 171) #[] #[.pointer (some ⟨bp,0,none⟩)],.pointer (some ⟨bc,12,none⟩),.pointer none,.func (.func 172) #[] #[.pointer (some ⟨bp,0,none⟩)],.pointer (some ⟨bc,13,none⟩),.pointer none,.func (.func 173) #[] #[.pointer (some ⟨bp,0,none⟩)],.pointer (some ⟨bc,14,none⟩),.pointer none,.func (.func 174) #[] #[.pointer (some ⟨bp,0,none⟩)],.pointer (some ⟨bc,15,none⟩),.pointer none,.func (.func 175) #[] #[.pointer (some ⟨bp,0,none⟩)],.pointer (some ⟨bc,16,none⟩),.pointer none,.func (.func 176) #[] #[.pointer (some ⟨bp,0,none⟩)],.pointer (some ⟨bc,17,none⟩),.pointer none,.func (.func 177) #[] #[.pointer (some ⟨bp,0,none⟩)],.pointer none,.pointer (some ⟨bc,18,none⟩),.func (.func 178) #[] #[.pointer (some ⟨bp,0,none⟩)],.pointer none,.pointer (some ⟨bc,19,none⟩),.func (.func 179) #[] #[.pointer (some ⟨bp,0,none⟩)]]
theorem oE (bp bc:Nat) :(Br bp bc).all (·.oneCell')=true:=by kernel_rfl
theorem pM:(Tryz.prog.info? 211).map (·.size)=some 60:=by kernel_rfl
theorem ah (bc:Nat)(w:Zc) :
  Zj Zb 118 #[.pointer (some ⟨bc,0,none⟩)] w fun e w'=>e= .returned (.agg (Br w.heap.size bc))∧Blk w' w.heap.size 213 #[.pointer (some ⟨bc,0,none⟩)]∧Zs w.heap.size w w':=by
 go_enter Tryz.func118,Tryz.ntmps118;go_wp2;refine TH 101 3 Ye rfl Ye rfl ?_;intro ops W hW;have hp:W.cell? ⟨w.heap.size,0,none⟩=some (.pointer (some ⟨bc,0,none⟩)):=by
  rw [hW]; exact ((Zv w 213 #[.pointer (some ⟨bc,0,none⟩)]).alloc _).cell 0
 have Ek:=Za (show Blk W w.heap.size 213 #[.pointer (some ⟨bc,0,none⟩)] by rw [hW]; exact (Zv w 213 #[.pointer (some ⟨bc,0,none⟩)]).alloc _);have UJ:=Za (show ∃Qo:Array Zl,Qo.size=60∧Blk W (w.heap.size+1) 211 Qo by
  rw [hW];exact ⟨_,rfl,heap_alloc2_new w _ _⟩)
 have HB:=Za (show Zs w.heap.size w W by rw [hW]; exact (((Below.refl _ _).alloc (Nat.le_refl _) _).alloc ZI _).drew);clear hW;iterate 101 still_step
 refine wpStill_nil ?_;obtain ⟨Qo,hs,GJ⟩:=UJ.out;refine wpList_store_row rfl _ _ _ rfl (w.heap.size+1) (Br w.heap.size bc) rfl rfl 211 Qo GJ pM (by rw [hs]; rfl) (oE _ _) ?_;have HS:=Za hs;have H2:=Za GJ;clear hs GJ;go_wp2;refine bodyPost_ret (v:= .agg (Br w.heap.size bc)) (results_cell_row (fn:=Tryz.f118) rfl _ _ (w.heap.size+1) 211 (Br w.heap.size bc) (0,0) _ rfl (setRow_heap W _ Qo _ 211 (0,0) H2.out) Tryz.underlying211 rfl pM) rfl ⟨rfl,?_,below_setRow HB.out Zm _⟩;exact (setRow_other W _ _ _ Zm).trans Ek.out
end
end Go.Proofs.YtianiiijaopdpaaGreat
