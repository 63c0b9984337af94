/- Part 5 of 58: L03Holds L03Right0 L03Right1 L03Right2 L03Right3 L03Right. -/
import Derived.Test.YtianiiijaopdpaaGreatZu00
import Derived.Test.YtianiiijaopdpaaGreatZu03
import Derived.Lib.MinMax
namespace Go.Proofs.YtianiiijaopdpaaGreat
set_option linter.unusedVariables false
set_option linter.unusedSimpArgs false
set_option maxRecDepth 100000
set_option maxHeartbeats 8000000
open _root_.Go.RowKit renaming Below → Zt
open _root_.Go.Proofs.YtianiiijaopdpaaGreat.Zy renaming cell → Yh
open _root_.Go renaming Calls → Zi, World → Zc
open _root_.Go.Lib renaming hid → Za
open _root_.Go.Proofs.Tryz renaming prog → Zb
theorem M2 {G:Prop} (h:G:=by
  unfold Zk;go_enter Tryz.func34,Tryz.ntmps34;go_wp2_with (first | (go_at_call 82; refine (between_any _ _ _ _).mono ?_; rintro e w' ⟨rfl,rfl⟩));go_ret;exact ⟨JR H.out.symm,(Below.refl _ _).alloc (Nat.le_refl _) _⟩) :G:=h
theorem O6 {G:Prop} (h:G:=by
  unfold Zk;go_enter Tryz.func34,Tryz.ntmps34;go_wp2_with (first | (go_at_call 82; refine (between_any _ _ _ _).mono ?_; rintro e w' ⟨rfl,rfl⟩));go_ret;exact ⟨rfl,(Below.refl _ _).alloc (Nat.le_refl _) _⟩) :G:=h
theorem ZgR {G:Prop} (h:G:=by
  go_enter Tryz.func171,Tryz.ntmps171;go_wp2_with (fail);go_quiet (fail);go_wp2_with (fail);go_ret;exact ⟨JR H.out.symm,_,rfl⟩) :G:=h
theorem ZgS {G:Prop} (h:G:=by
  go_enter Tryz.func176,Tryz.ntmps176;go_wp2_with (fail);go_quiet (fail);go_wp2_with (fail);go_ret;exact ⟨JR H.out.symm,_,rfl⟩) :G:=h
theorem Zdr {G:Prop} (h:G:=by
  go_wp2_with (fail);go_quiet ((go_at_call 164; exact GJ (withinU_any _ _ _ _)));go_wp2_with (fail);go_ret;exact ⟨rfl,_,rfl⟩) :G:=h
theorem dz {G:Prop} (h:G:=by
  go_wp2_with (first | (go_at_call 159; refine (withinI_any _ _ _ _).mono ?_; rintro e w' ⟨rfl,rfl⟩));go_ret;exact ⟨rfl,0,rfl⟩) :G:=h
theorem ZgV {G:Prop} (h:G:=by
  go_wp2_with (first | (go_at_call 164; refine (withinU_any _ _ _ _).mono ?_; rintro e w' ⟨rfl,rfl⟩));go_ret;exact ⟨rfl,0,rfl⟩) :G:=h
theorem sO {G:Prop} (h:G:=by
  go_enter Tryz.func159,Tryz.ntmps159;go_wp2;go_ret;exact ⟨JR H.out.symm,rfl⟩) :G:=h
theorem sP {G:Prop} (h:G:=by
  go_enter Tryz.func164,Tryz.ntmps164;go_wp2;go_ret;exact ⟨JR H.out.symm,rfl⟩) :G:=h
theorem sS {G:Prop} (h:G:=by
  go_enter Tryz.func82,Tryz.ntmps82;go_wp2;go_ret;exact ⟨JR H.out.symm,rfl⟩) :G:=h
theorem ZaA {G:Prop} (h:G:=by
  go_wp2_with (fail);go_quiet (fail);go_wp2_with (fail);go_ret;exact ⟨rfl,_,rfl⟩) :G:=h
section
open Go.RowKit
theorem Cu {v lo hi:Int}(h:lo≤v)(h':v≤hi) :Mc v lo hi=true:=by unfold Mc; simp; omega
theorem On {v lo hi:Int}(h:v < lo∨hi < v) :Mc v lo hi=false:=by unfold Mc; simp; omega
theorem withinI_any (v lo hi:Int)(w:Zc) :
  Zi Zb 159 #[.int .i64 v,.int .i64 lo,.int .i64 hi] w fun e w'=>e= .returned (.bool (Mc v lo hi))∧w=w':=by
 by_cases h1:lo≤v
 ·have hd:decide (lo≤v)=true:=by simpa using h1
  by_cases h2:v≤hi
  ·have H:=Za (Cu h1 h2);exact sO
  ·have vV:decide (v≤hi)=false:=by simpa using h2
   have H:=Za (On (v:=v) (lo:=lo) (hi:=hi) (.inr Zp));exact sO
 ·have hd:decide (lo≤v)=false:=by simpa using h1
  have H:=Za (On (v:=v) (lo:=lo) (hi:=hi) (.inl Zp));exact sO
theorem withinU_any (v lo hi:Int)(w:Zc) :
  Zi Zb 164 #[.int .u64 v,.int .u64 lo,.int .u64 hi] w fun e w'=>e= .returned (.bool (Mc v lo hi))∧w=w':=by
 by_cases h1:lo≤v
 ·have hd:decide (lo≤v)=true:=by simpa using h1
  by_cases h2:v≤hi
  ·have H:=Za (Cu h1 h2);exact sP
  ·have vV:decide (v≤hi)=false:=by simpa using h2
   have H:=Za (On (v:=v) (lo:=lo) (hi:=hi) (.inr Zp));exact sP
 ·have hd:decide (lo≤v)=false:=by simpa using h1
  have H:=Za (On (v:=v) (lo:=lo) (hi:=hi) (.inl Zp));exact sP
theorem between_any (v lo hi:Int)(w:Zc) :
  Zi Zb 82 #[.int .i64 v,.int .i64 lo,.int .i64 hi] w fun e w'=>e= .returned (.bool (Mc v lo hi))∧w=w':=by
 by_cases h1:lo≤v
 ·have hd:decide (lo≤v)=true:=by simpa using h1
  by_cases h2:v≤hi
  ·have H:=Za (Cu h1 h2);exact sS
  ·have vV:decide (v≤hi)=false:=by simpa using h2
   have H:=Za (On (v:=v) (lo:=lo) (hi:=hi) (.inr Zp));exact sS
 ·have hd:decide (lo≤v)=false:=by simpa using h1
  have H:=Za (On (v:=v) (lo:=lo) (hi:=hi) (.inl Zp));exact sS
theorem ZbV (bp bc:Nat)(c:Nat→Int)(w:Zc)(hp:w.cell? ⟨bp,0,none⟩=some (.pointer (some ⟨bc,0,none⟩)))(hc:Zy w bc 24 (Zk c)) :
  Zi Zb 158 #[.pointer (some ⟨bp,0,none⟩)] w fun e w'=>e= .returned (.bool (Yz c 0))∧ ∃n,w'=w.drewN n:=by
 have c0:w.cell? ⟨bc,0,none⟩=some (.int .i64 (c 0)):=Yh hc 0;clear hc;go_enter Tryz.func158,Tryz.ntmps158;exact dz
theorem ZbW (bp bc:Nat)(c:Nat→Int)(w:Zc)(hp:w.cell? ⟨bp,0,none⟩=some (.pointer (some ⟨bc,0,none⟩)))(hc:Zy w bc 24 (Zk c)) :
  Zi Zb 160 #[.pointer (some ⟨bp,0,none⟩)] w fun e w'=>e= .returned (.bool (Yz c 1))∧ ∃n,w'=w.drewN n:=by
 have c1:w.cell? ⟨bc,1,none⟩=some (.int .i64 (c 1)):=Yh hc 1;clear hc;go_enter Tryz.func160,Tryz.ntmps160;exact dz
theorem ZbX (bp bc:Nat)(c:Nat→Int)(w:Zc)(hp:w.cell? ⟨bp,0,none⟩=some (.pointer (some ⟨bc,0,none⟩)))(hc:Zy w bc 24 (Zk c)) :
  Zi Zb 161 #[.pointer (some ⟨bp,0,none⟩)] w fun e w'=>e= .returned (.bool (Yz c 2))∧ ∃n,w'=w.drewN n:=by
 have c2:w.cell? ⟨bc,2,none⟩=some (.int .u64 (c 2)):=Yh hc 2;clear hc;go_enter Tryz.func161,Tryz.ntmps161;go_wp2;go_ret;exact ⟨rfl,0,rfl⟩
theorem ZbY (bp bc:Nat)(c:Nat→Int)(w:Zc)(hp:w.cell? ⟨bp,0,none⟩=some (.pointer (some ⟨bc,0,none⟩)))(hc:Zy w bc 24 (Zk c)) :
  Zi Zb 162 #[.pointer (some ⟨bp,0,none⟩)] w fun e w'=>e= .returned (.bool (Yz c 3))∧ ∃n,w'=w.drewN n:=by
 have c3:w.cell? ⟨bc,3,none⟩=some (.int .u64 (c 3)):=Yh hc 3;have c2:w.cell? ⟨bc,2,none⟩=some (.int .u64 (c 2)):=Yh hc 2;clear hc;go_enter Tryz.func162,Tryz.ntmps162;exact ZaA
theorem ZbZ (bp bc:Nat)(c:Nat→Int)(w:Zc)(hp:w.cell? ⟨bp,0,none⟩=some (.pointer (some ⟨bc,0,none⟩)))(hc:Zy w bc 24 (Zk c)) :
  Zi Zb 163 #[.pointer (some ⟨bp,0,none⟩)] w fun e w'=>e= .returned (.bool (Yz c 4))∧ ∃n,w'=w.drewN n:=by
 have c4:w.cell? ⟨bc,4,none⟩=some (.int .u64 (c 4)):=Yh hc 4;have c3:w.cell? ⟨bc,3,none⟩=some (.int .u64 (c 3)):=Yh hc 3;clear hc;go_enter Tryz.func163,Tryz.ntmps163;exact Zdr
theorem Zb0 (bp bc:Nat)(c:Nat→Int)(w:Zc)(hp:w.cell? ⟨bp,0,none⟩=some (.pointer (some ⟨bc,0,none⟩)))(hc:Zy w bc 24 (Zk c)) :
  Zi Zb 165 #[.pointer (some ⟨bp,0,none⟩)] w fun e w'=>e= .returned (.bool (Yz c 5))∧ ∃n,w'=w.drewN n:=by
 have c5:w.cell? ⟨bc,5,none⟩=some (.int .u64 (c 5)):=Yh hc 5;have c2:w.cell? ⟨bc,2,none⟩=some (.int .u64 (c 2)):=Yh hc 2;clear hc;go_enter Tryz.func165,Tryz.ntmps165;exact Zdr
theorem Zb1 (bp bc:Nat)(c:Nat→Int)(w:Zc)(hp:w.cell? ⟨bp,0,none⟩=some (.pointer (some ⟨bc,0,none⟩)))(hc:Zy w bc 24 (Zk c)) :
  Zi Zb 166 #[.pointer (some ⟨bp,0,none⟩)] w fun e w'=>e= .returned (.bool (Yz c 6))∧ ∃n,w'=w.drewN n:=by
 have c6:w.cell? ⟨bc,6,none⟩=some (.int .u64 (c 6)):=Yh hc 6;have c3:w.cell? ⟨bc,3,none⟩=some (.int .u64 (c 3)):=Yh hc 3;have c4:w.cell? ⟨bc,4,none⟩=some (.int .u64 (c 4)):=Yh hc 4;clear hc;go_enter Tryz.func166,Tryz.ntmps166;exact Zdr
theorem Zb2 (bp bc:Nat)(c:Nat→Int)(w:Zc)(hp:w.cell? ⟨bp,0,none⟩=some (.pointer (some ⟨bc,0,none⟩)))(hc:Zy w bc 24 (Zk c)) :
  Zi Zb 167 #[.pointer (some ⟨bp,0,none⟩)] w fun e w'=>e= .returned (.bool (Yz c 7))∧ ∃n,w'=w.drewN n:=by
 have c7:w.cell? ⟨bc,7,none⟩=some (.int .u64 (c 7)):=Yh hc 7;clear hc;go_enter Tryz.func167,Tryz.ntmps167;exact ZgV
theorem Zb3 (bp bc:Nat)(c:Nat→Int)(w:Zc)(hp:w.cell? ⟨bp,0,none⟩=some (.pointer (some ⟨bc,0,none⟩)))(hc:Zy w bc 24 (Zk c)) :
  Zi Zb 168 #[.pointer (some ⟨bp,0,none⟩)] w fun e w'=>e= .returned (.bool (Yz c 8))∧ ∃n,w'=w.drewN n:=by
 have c8:w.cell? ⟨bc,8,none⟩=some (.int .u64 (c 8)):=Yh hc 8;clear hc;go_enter Tryz.func168,Tryz.ntmps168;go_wp2;go_ret;exact ⟨rfl,0,rfl⟩
theorem Zb4 (bp bc:Nat)(c:Nat→Int)(w:Zc)(hp:w.cell? ⟨bp,0,none⟩=some (.pointer (some ⟨bc,0,none⟩)))(hc:Zy w bc 24 (Zk c)) :
  Zi Zb 169 #[.pointer (some ⟨bp,0,none⟩)] w fun e w'=>e= .returned (.bool (Yz c 9))∧ ∃n,w'=w.drewN n:=by
 have c9:w.cell? ⟨bc,9,none⟩=some (.int .u64 (c 9)):=Yh hc 9;clear hc;go_enter Tryz.func169,Tryz.ntmps169;go_wp2;go_ret;exact ⟨rfl,0,rfl⟩
theorem wj (bp bc:Nat)(c:Nat→Int)(w:Zc)(hp:w.cell? ⟨bp,0,none⟩=some (.pointer (some ⟨bc,0,none⟩)))(hc:Zy w bc 24 (Zk c)) :
  Zi Zb 170 #[.pointer (some ⟨bp,0,none⟩)] w fun e w'=>e= .returned (.bool (Yz c 10))∧ ∃n,w'=w.drewN n:=by
 have c10:w.cell? ⟨bc,10,none⟩=some (.int .i64 (c 10)):=Yh hc 10;clear hc;go_enter Tryz.func170,Tryz.ntmps170;exact dz
theorem wk (bp bc:Nat)(c:Nat→Int)(w:Zc)(hp:w.cell? ⟨bp,0,none⟩=some (.pointer (some ⟨bc,0,none⟩)))(hc:Zy w bc 24 (Zk c)) :
  Zi Zb 171 #[.pointer (some ⟨bp,0,none⟩)] w fun e w'=>e= .returned (.bool (Yz c 11))∧ ∃n,w'=w.drewN n:=by
 have c11:w.cell? ⟨bc,11,none⟩=some (.int .i64 (c 11)):=Yh hc 11;have c10:w.cell? ⟨bc,10,none⟩=some (.int .i64 (c 10)):=Yh hc 10;clear hc
 by_cases h1:c 10 < c 11
 ·have hd:decide (c 10 < c 11)=true:=by simpa using h1
  have H:=Za (show Yz c 11=decide (c 11≤1048576) by simp [Yz,h1]);exact ZgR
 ·have hd:decide (c 10 < c 11)=false:=by simpa using h1
  have H:=Za (show Yz c 11=false by simp [Yz,h1]);exact ZgR
theorem wm (bp bc:Nat)(c:Nat→Int)(w:Zc)(hp:w.cell? ⟨bp,0,none⟩=some (.pointer (some ⟨bc,0,none⟩)))(hc:Zy w bc 24 (Zk c)) :
  Zi Zb 172 #[.pointer (some ⟨bp,0,none⟩)] w fun e w'=>e= .returned (.bool (Yz c 12))∧ ∃n,w'=w.drewN n:=by
 have c12:w.cell? ⟨bc,12,none⟩=some (.int .i64 (c 12)):=Yh hc 12;clear hc;go_enter Tryz.func172,Tryz.ntmps172;exact dz
theorem wo (bp bc:Nat)(c:Nat→Int)(w:Zc)(hp:w.cell? ⟨bp,0,none⟩=some (.pointer (some ⟨bc,0,none⟩)))(hc:Zy w bc 24 (Zk c)) :
  Zi Zb 173 #[.pointer (some ⟨bp,0,none⟩)] w fun e w'=>e= .returned (.bool (Yz c 13))∧ ∃n,w'=w.drewN n:=by
 have c13:w.cell? ⟨bc,13,none⟩=some (.int .i64 (c 13)):=Yh hc 13;clear hc;go_enter Tryz.func173,Tryz.ntmps173;exact dz
theorem wq (bp bc:Nat)(c:Nat→Int)(w:Zc)(hp:w.cell? ⟨bp,0,none⟩=some (.pointer (some ⟨bc,0,none⟩)))(hc:Zy w bc 24 (Zk c)) :
  Zi Zb 174 #[.pointer (some ⟨bp,0,none⟩)] w fun e w'=>e= .returned (.bool (Yz c 14))∧ ∃n,w'=w.drewN n:=by
 have c14:w.cell? ⟨bc,14,none⟩=some (.int .i64 (c 14)):=Yh hc 14;clear hc;go_enter Tryz.func174,Tryz.ntmps174;exact dz
theorem wu (bp bc:Nat)(c:Nat→Int)(w:Zc)(hp:w.cell? ⟨bp,0,none⟩=some (.pointer (some ⟨bc,0,none⟩)))(hc:Zy w bc 24 (Zk c)) :
  Zi Zb 175 #[.pointer (some ⟨bp,0,none⟩)] w fun e w'=>e= .returned (.bool (Yz c 15))∧ ∃n,w'=w.drewN n:=by
 have c15:w.cell? ⟨bc,15,none⟩=some (.int .i64 (c 15)):=Yh hc 15;clear hc;go_enter Tryz.func175,Tryz.ntmps175;exact dz
theorem wy (bp bc:Nat)(c:Nat→Int)(w:Zc)(hp:w.cell? ⟨bp,0,none⟩=some (.pointer (some ⟨bc,0,none⟩)))(hc:Zy w bc 24 (Zk c)) :
  Zi Zb 176 #[.pointer (some ⟨bp,0,none⟩)] w fun e w'=>e= .returned (.bool (Yz c 16))∧ ∃n,w'=w.drewN n:=by
 have c16:w.cell? ⟨bc,16,none⟩=some (.int .i64 (c 16)):=Yh hc 16;have c14:w.cell? ⟨bc,14,none⟩=some (.int .i64 (c 14)):=Yh hc 14;have c15:w.cell? ⟨bc,15,none⟩=some (.int .i64 (c 15)):=Yh hc 15;clear hc
 by_cases h1:0≤c 16
 ·have hd:decide (0≤c 16)=true:=by simpa using h1
  have H:=Za (show Yz c 16=decide (c 16 < min (c 14) (c 15)) by simp [Yz,h1,Int.lt_min]);exact ZgS
 ·have hd:decide (0≤c 16)=false:=by simpa using h1
  have H:=Za (show Yz c 16=false by simp [Yz,h1]);exact ZgS
theorem wz (bp bc:Nat)(c:Nat→Int)(w:Zc)(hp:w.cell? ⟨bp,0,none⟩=some (.pointer (some ⟨bc,0,none⟩)))(hc:Zy w bc 24 (Zk c)) :
  Zi Zb 177 #[.pointer (some ⟨bp,0,none⟩)] w fun e w'=>e= .returned (.bool (Yz c 17))∧ ∃n,w'=w.drewN n:=by
 have c17:w.cell? ⟨bc,17,none⟩=some (.int .i64 (c 17)):=Yh hc 17;clear hc;go_enter Tryz.func177,Tryz.ntmps177;exact dz
theorem wA (bp bc:Nat)(c:Nat→Int)(w:Zc)(hp:w.cell? ⟨bp,0,none⟩=some (.pointer (some ⟨bc,0,none⟩)))(hc:Zy w bc 24 (Zk c)) :
  Zi Zb 178 #[.pointer (some ⟨bp,0,none⟩)] w fun e w'=>e= .returned (.bool (Yz c 18))∧ ∃n,w'=w.drewN n:=by
 have c18:w.cell? ⟨bc,18,none⟩=some (.int .u64 (c 18)):=Yh hc 18;have c19:w.cell? ⟨bc,19,none⟩=some (.int .u64 (c 19)):=Yh hc 19;clear hc;go_enter Tryz.func178,Tryz.ntmps178;exact ZaA
theorem wB (bp bc:Nat)(c:Nat→Int)(w:Zc)(hp:w.cell? ⟨bp,0,none⟩=some (.pointer (some ⟨bc,0,none⟩)))(hc:Zy w bc 24 (Zk c)) :
  Zi Zb 179 #[.pointer (some ⟨bp,0,none⟩)] w fun e w'=>e= .returned (.bool (Yz c 19))∧ ∃n,w'=w.drewN n:=by
 have c19:w.cell? ⟨bc,19,none⟩=some (.int .u64 (c 19)):=Yh hc 19;clear hc;go_enter Tryz.func179,Tryz.ntmps179;exact ZgV
end
section
open Go.RowKit
theorem ZcR (c:Nat→Int)(w:Zc) :
  Zi Zb 34 #[.agg (Zk c),.int .i64 1] w fun e w'=>e= .returned (.bool (Yz c 0))∧Zt w.heap.size w w':=by
 exact O6
theorem ZcV (c:Nat→Int)(w:Zc) :
  Zi Zb 34 #[.agg (Zk c),.int .i64 5] w fun e w'=>e= .returned (.bool (Yz c 4))∧Zt w.heap.size w w':=by
 by_cases h1:c 3≤c 4
 ·have hd:decide (c 3≤c 4)=true:=by simpa using h1
  have H:=Za (show Yz c 4=decide (c 4≤1152921504606846976) by simp [Yz,Mc,cb,h1]);exact M2
 ·have hd:decide (c 3≤c 4)=false:=by simpa using h1
  have H:=Za (show Yz c 4=false by simp [Yz,Mc,h1]);exact M2
theorem ZcZ (c:Nat→Int)(w:Zc) :
  Zi Zb 34 #[.agg (Zk c),.int .i64 9] w fun e w'=>e= .returned (.bool (Yz c 8))∧Zt w.heap.size w w':=by
 exact O6
theorem xF (c:Nat→Int)(w:Zc) :
  Zi Zb 34 #[.agg (Zk c),.int .i64 13] w fun e w'=>e= .returned (.bool (Yz c 12))∧Zt w.heap.size w w':=by
 exact O6
theorem xJ (c:Nat→Int)(w:Zc) :
  Zi Zb 34 #[.agg (Zk c),.int .i64 17] w fun e w'=>e= .returned (.bool (Yz c 16))∧Zt w.heap.size w w':=by
 by_cases h1:0≤c 16
 ·have hd:decide (0≤c 16)=true:=by simpa using h1
  by_cases h2:c 16 < c 14
  ·have vV:decide (c 16 < c 14)=true:=by simpa using h2
   have H:=Za (show Yz c 16=decide (c 16 < c 15) by simp [Yz,h1,h2]);exact M2
  ·have vV:decide (c 16 < c 14)=false:=by simpa using h2
   have H:=Za (show Yz c 16=false by simp [Yz,h2]);exact M2
 ·have hd:decide (0≤c 16)=false:=by simpa using h1
  have H:=Za (show Yz c 16=false by simp [Yz,h1]);exact M2
end
section
open Go.RowKit
theorem ZcS (c:Nat→Int)(w:Zc) :
  Zi Zb 34 #[.agg (Zk c),.int .i64 2] w fun e w'=>e= .returned (.bool (Yz c 1))∧Zt w.heap.size w w':=by
 exact O6
theorem ZcW (c:Nat→Int)(w:Zc) :
  Zi Zb 34 #[.agg (Zk c),.int .i64 6] w fun e w'=>e= .returned (.bool (Yz c 5))∧Zt w.heap.size w w':=by
 by_cases h1:1≤c 5
 ·have hd:decide (1≤c 5)=true:=by simpa using h1
  have H:=Za (show Yz c 5=decide (c 5≤c 2) by simp [Yz,Mc,h1]);exact M2
 ·have hd:decide (1≤c 5)=false:=by simpa using h1
  have H:=Za (show Yz c 5=false by simp [Yz,Mc,h1]);exact M2
theorem Zc0 (c:Nat→Int)(w:Zc) :
  Zi Zb 34 #[.agg (Zk c),.int .i64 10] w fun e w'=>e= .returned (.bool (Yz c 9))∧Zt w.heap.size w w':=by
 exact O6
theorem xG (c:Nat→Int)(w:Zc) :
  Zi Zb 34 #[.agg (Zk c),.int .i64 14] w fun e w'=>e= .returned (.bool (Yz c 13))∧Zt w.heap.size w w':=by
 exact O6
theorem xK (c:Nat→Int)(w:Zc) :
  Zi Zb 34 #[.agg (Zk c),.int .i64 18] w fun e w'=>e= .returned (.bool (Yz c 17))∧Zt w.heap.size w w':=by
 exact O6
end
section
open Go.RowKit
theorem ZcT (c:Nat→Int)(w:Zc) :
  Zi Zb 34 #[.agg (Zk c),.int .i64 3] w fun e w'=>e= .returned (.bool (Yz c 2))∧Zt w.heap.size w w':=by
 exact O6
theorem ZcX (c:Nat→Int)(w:Zc) :
  Zi Zb 34 #[.agg (Zk c),.int .i64 7] w fun e w'=>e= .returned (.bool (Yz c 6))∧Zt w.heap.size w w':=by
 by_cases h1:c 3≤c 6
 ·have hd:decide (c 3≤c 6)=true:=by simpa using h1
  have H:=Za (show Yz c 6=decide (c 6≤c 4) by simp [Yz,Mc,h1]);exact M2
 ·have hd:decide (c 3≤c 6)=false:=by simpa using h1
  have H:=Za (show Yz c 6=false by simp [Yz,Mc,h1]);exact M2
theorem xD (c:Nat→Int)(w:Zc) :
  Zi Zb 34 #[.agg (Zk c),.int .i64 11] w fun e w'=>e= .returned (.bool (Yz c 10))∧Zt w.heap.size w w':=by
 exact O6
theorem xH (c:Nat→Int)(w:Zc) :
  Zi Zb 34 #[.agg (Zk c),.int .i64 15] w fun e w'=>e= .returned (.bool (Yz c 14))∧Zt w.heap.size w w':=by
 exact O6
theorem xL (c:Nat→Int)(w:Zc) :
  Zi Zb 34 #[.agg (Zk c),.int .i64 19] w fun e w'=>e= .returned (.bool (Yz c 18))∧Zt w.heap.size w w':=by
 exact O6
end
section
open Go.RowKit
theorem ZcU (c:Nat→Int)(w:Zc) :
  Zi Zb 34 #[.agg (Zk c),.int .i64 4] w fun e w'=>e= .returned (.bool (Yz c 3))∧Zt w.heap.size w w':=by
 exact O6
theorem ZcY (c:Nat→Int)(w:Zc) :
  Zi Zb 34 #[.agg (Zk c),.int .i64 8] w fun e w'=>e= .returned (.bool (Yz c 7))∧Zt w.heap.size w w':=by
 by_cases h1:1≤c 7
 ·have hd:decide (1≤c 7)=true:=by simpa using h1
  have H:=Za (show Yz c 7=decide (c 7≤1152921504606846976) by simp [Yz,Mc,cb,h1]);exact M2
 ·have hd:decide (1≤c 7)=false:=by simpa using h1
  have H:=Za (show Yz c 7=false by simp [Yz,Mc,h1]);exact M2
theorem xE (c:Nat→Int)(w:Zc) :
  Zi Zb 34 #[.agg (Zk c),.int .i64 12] w fun e w'=>e= .returned (.bool (Yz c 11))∧Zt w.heap.size w w':=by
 by_cases h1:c 10 < c 11
 ·have hd:decide (c 10 < c 11)=true:=by simpa using h1
  have H:=Za (show Yz c 11=decide (c 11≤1048576) by simp [Yz,h1]);exact M2
 ·have hd:decide (c 10 < c 11)=false:=by simpa using h1
  have H:=Za (show Yz c 11=false by simp [Yz,h1]);exact M2
theorem xI (c:Nat→Int)(w:Zc) :
  Zi Zb 34 #[.agg (Zk c),.int .i64 16] w fun e w'=>e= .returned (.bool (Yz c 15))∧Zt w.heap.size w w':=by
 exact O6
theorem xM (c:Nat→Int)(w:Zc) :
  Zi Zb 34 #[.agg (Zk c),.int .i64 20] w fun e w'=>e= .returned (.bool (Yz c 19))∧Zt w.heap.size w w':=by
 by_cases h1:1≤c 19
 ·have hd:decide (1≤c 19)=true:=by simpa using h1
  have H:=Za (show Yz c 19=decide (c 19≤4294967296) by simp [Yz,Mc,h1]);exact M2
 ·have hd:decide (1≤c 19)=false:=by simpa using h1
  have H:=Za (show Yz c 19=false by simp [Yz,Mc,h1]);exact M2
end
section
open Go.RowKit
theorem AG (c:Nat→Int)(k:Nat)(hk:k < 20)(w:Zc) :
  Zi Zb 34 #[.agg (Zk c),.int .i64 ((k:Int)+1)] w fun e w'=>e= .returned (.bool (Yz c k))∧Zt w.heap.size w w':=by
 have:k=0∨k=1∨k=2∨k=3∨k=4∨k=5∨k=6∨k=7∨k=8∨k=9∨k=10∨k=11∨k=12∨k=13∨k=14∨k=15∨k=16∨k=17∨k=18∨k=19:=by omega
 rcases this with rfl | rfl | rfl | rfl | rfl | rfl | rfl | rfl | rfl | rfl | rfl | rfl | rfl | rfl | rfl | rfl | rfl | rfl | rfl | rfl
 ·exact ZcR c w
 ·exact ZcS c w
 ·exact ZcT c w
 ·exact ZcU c w
 ·exact ZcV c w
 ·exact ZcW c w
 ·exact ZcX c w
 ·exact ZcY c w
 ·exact ZcZ c w
 ·exact Zc0 c w
 ·exact xD c w
 ·exact xE c w
 ·exact xF c w
 ·exact xG c w
 ·exact xH c w
 ·exact xI c w
 ·exact xJ c w
 ·exact xK c w
 ·exact xL c w
 ·exact xM c w
end
end Go.Proofs.YtianiiijaopdpaaGreat
