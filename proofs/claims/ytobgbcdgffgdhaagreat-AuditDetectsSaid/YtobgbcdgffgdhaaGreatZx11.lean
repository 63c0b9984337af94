/- Part 11 of 34: L03Holds L03Right0 L03Right1 L03Right2 L03Right3 L03Right L08Ints L09Sweep L13Amts L13UOwn L03Entries. -/
import Derived.Test.YtobgbcdgffgdhaaGreatZx00
import Derived.Test.YtobgbcdgffgdhaaGreatZx06
import Derived.Shelf.Slices.Empties2
import Derived.Test.YtobgbcdgffgdhaaGreatShelf
namespace Go.Proofs.YtobgbcdgffgdhaaGreat
set_option linter.unusedVariables false
set_option linter.unusedSimpArgs false
set_option maxRecDepth 100000
set_option maxHeartbeats 8000000
open _root_.Array renaming getElem?_eq_some_iff -> Yj
open _root_.Go.Proofs.YtobgbcdgffgdhaaGreat.Zu renaming new -> Zs
open _root_.List renaming eq_nil_of_length_eq_zero -> ZO, length_map -> Yt, take_length -> J1
open _root_.Nat renaming lt_of_lt_of_le -> YC
open _root_.Go.Proofs.Tryz renaming prog -> Zb
open _root_.Go renaming Value -> Zl, World -> Zc
open _root_.Go.Value renaming int -> ZG
open Go.Proofs.Tryz
theorem Wf {G:Prop}(h:G:=by rw [HN.o]; omega) :G:=h
theorem dy {G:Prop}(h:G:=by rw [List.getElem?_map,List.getD_eq_getElem?_getD,List.getElem?_eq_getElem hj]; rfl) :G:=h
theorem Zgk {G:Prop} (h:G:=by
  go_wp2_with (fail);go_quiet (fail);go_wp2_with (fail);go_ret;exact ⟨Uo H.o.symm,_,rfl⟩) :G:=h
theorem Zgw {G:Prop} (h:G:=by
  go_ret;exact ⟨rfl,(Below.refl _ _).alloc (Nat.le_refl _) _⟩) :G:=h
theorem zX {G:Prop} (h:G:=by
  go_wp2;go_ret;exact ⟨Uo H.o.symm,rfl⟩) :G:=h
theorem jn {G:Prop} (h:G:=by
  go_ret;exact ⟨rfl,0,rfl⟩) :G:=h
theorem OK {G:Prop} (h:G:=by
  unfold Zi;go_enter func28,ntmps28;go_wp2_with (first | (go_at_call 52; refine (Su _ _ _ _).mono ?_; rintro e w' ⟨rfl,rfl⟩));go_ret;exact ⟨Uo H.o.symm,(Below.refl _ _).alloc (Nat.le_refl _) _⟩) :G:=h
theorem Sm {G:Prop} (h:G:=by
  unfold Zi;go_enter func28,ntmps28;go_wp2_with (first | (go_at_call 52; refine (Su _ _ _ _).mono ?_; rintro e w' ⟨rfl,rfl⟩));exact Zgw) :G:=h
theorem ZeJ {G:Prop} (h:G:=by
  go_enter func159,ntmps159;exact Zgk) :G:=h
theorem ZeK {G:Prop} (h:G:=by
  go_enter func164,ntmps164;exact Zgk) :G:=h
theorem yE {G:Prop} (h:G:=by
  go_wp2_with (fail);go_quiet ((go_at_call 152; exact Dj (Th _ _ _ _)));go_wp2_with (fail);exact aT) :G:=h
theorem Tj {G:Prop} (h:G:=by
  go_wp2_with (first | (go_at_call 147; refine (jc _ _ _ _).mono ?_; rintro e w' ⟨rfl,rfl⟩));exact jn) :G:=h
theorem ZeO {G:Prop} (h:G:=by
  go_wp2_with (first | (go_at_call 152; refine (Th _ _ _ _).mono ?_; rintro e w' ⟨rfl,rfl⟩));exact jn) :G:=h
theorem yQ {G:Prop} (h:G:=by
  rcases h.2 with ⟨rfl,rfl⟩ | ⟨g,cp,cur,rfl,_⟩
  ·exact ⟨none,0,rfl⟩
  ·exact ⟨_,cp,rfl⟩) :G:=h
theorem yT {G:Prop} (h:G:=by
  go_enter func147,ntmps147;exact zX) :G:=h
theorem yU {G:Prop} (h:G:=by
  go_enter func152,ntmps152;exact zX) :G:=h
theorem yV {G:Prop} (h:G:=by
  go_enter func251,ntmps251;go_wp2;go_ret;exact ⟨by rw [HE.o]; rfl,rfl⟩) :G:=h
theorem yX {G:Prop} (h:G:=by
  go_enter func52,ntmps52;exact zX) :G:=h
theorem Zft {G:Prop} (h:G:=by
  go_wp2_with (fail);go_quiet (fail);go_wp2_with (fail);exact aT) :G:=h
theorem zh {G:Prop} (h:G:=by
  clear Ub;go_wp2;try rw [Exit.noGoto_ret]
  go_ret2;exact he.o) :G:=h
section
open Go.RowKit
theorem bz {v lo hi:Int}(h:lo<=v)(h':v<=hi) :NS v lo hi=true:=by unfold NS; simp; omega
theorem Rt {v lo hi:Int}(h:v < lo\/hi < v) :NS v lo hi=false:=by unfold NS; simp; omega
theorem jc (v lo hi:Int)(w:Zc) :
  Y6 147 #[.int .i64 v,.int .i64 lo,.int .i64 hi] w (.bool (NS v lo hi)):=by
 by_cases h1:lo<=v
 ·have hd:decide (lo<=v)=true:=QT
  by_cases h2:v<=hi
  ·have H:=Za (bz h1 h2);exact yT
  ·have vE:decide (v<=hi)=false:=by simpa using h2
   have H:=Za (Rt (v:=v) (lo:=lo) (hi:=hi) (.inr Zf));exact yT
 ·have hd:decide (lo<=v)=false:=QT;have H:=Za (Rt (v:=v) (lo:=lo) (hi:=hi) (.inl Zf));exact yT
theorem Th (v lo hi:Int)(w:Zc) :
  Y6 152 #[.int .u64 v,.int .u64 lo,.int .u64 hi] w (.bool (NS v lo hi)):=by
 by_cases h1:lo<=v
 ·have hd:decide (lo<=v)=true:=QT
  by_cases h2:v<=hi
  ·have H:=Za (bz h1 h2);exact yU
  ·have vE:decide (v<=hi)=false:=by simpa using h2
   have H:=Za (Rt (v:=v) (lo:=lo) (hi:=hi) (.inr Zf));exact yU
 ·have hd:decide (lo<=v)=false:=QT;have H:=Za (Rt (v:=v) (lo:=lo) (hi:=hi) (.inl Zf));exact yU
theorem Su (v lo hi:Int)(w:Zc) :
  Y6 52 #[.int .i64 v,.int .i64 lo,.int .i64 hi] w (.bool (NS v lo hi)):=by
 by_cases h1:lo<=v
 ·have hd:decide (lo<=v)=true:=QT
  by_cases h2:v<=hi
  ·have H:=Za (bz h1 h2);exact yX
  ·have vE:decide (v<=hi)=false:=by simpa using h2
   have H:=Za (Rt (v:=v) (lo:=lo) (hi:=hi) (.inr Zf));exact yX
 ·have hd:decide (lo<=v)=false:=QT;have H:=Za (Rt (v:=v) (lo:=lo) (hi:=hi) (.inl Zf));exact yX
theorem Zht (bp bc:Nat)(c:Nat->Int)(w:Zc)(hp:w.cell? ⟨bp,0,none⟩=some (.pointer (some ⟨bc,0,none⟩)))(hc:Zu w bc 30 (Zi c)) :
  Xc 146 #[.pointer (some ⟨bp,0,none⟩)] w (.bool (Yx c 0)):=by
 have c0:=Xx hc 0;clear hc;go_enter func146,ntmps146;exact Tj
theorem Zhu (bp bc:Nat)(c:Nat->Int)(w:Zc)(hp:w.cell? ⟨bp,0,none⟩=some (.pointer (some ⟨bc,0,none⟩)))(hc:Zu w bc 30 (Zi c)) :
  Xc 148 #[.pointer (some ⟨bp,0,none⟩)] w (.bool (Yx c 1)):=by
 have c1:=Xx hc 1;clear hc;go_enter func148,ntmps148;exact Tj
theorem Zhv (bp bc:Nat)(c:Nat->Int)(w:Zc)(hp:w.cell? ⟨bp,0,none⟩=some (.pointer (some ⟨bc,0,none⟩)))(hc:Zu w bc 30 (Zi c)) :
  Xc 149 #[.pointer (some ⟨bp,0,none⟩)] w (.bool (Yx c 2)):=by
 have c2:=Xx hc 2;clear hc;go_enter func149,ntmps149;go_wp2;exact jn
theorem Zhw (bp bc:Nat)(c:Nat->Int)(w:Zc)(hp:w.cell? ⟨bp,0,none⟩=some (.pointer (some ⟨bc,0,none⟩)))(hc:Zu w bc 30 (Zi c)) :
  Xc 150 #[.pointer (some ⟨bp,0,none⟩)] w (.bool (Yx c 3)):=by
 have c3:=Xx hc 3;have c2:=Xx hc 2;clear hc;go_enter func150,ntmps150;exact Zft
theorem Zhx (bp bc:Nat)(c:Nat->Int)(w:Zc)(hp:w.cell? ⟨bp,0,none⟩=some (.pointer (some ⟨bc,0,none⟩)))(hc:Zu w bc 30 (Zi c)) :
  Xc 151 #[.pointer (some ⟨bp,0,none⟩)] w (.bool (Yx c 4)):=by
 have c4:=Xx hc 4;have c3:=Xx hc 3;clear hc;go_enter func151,ntmps151;exact yE
theorem Zhy (bp bc:Nat)(c:Nat->Int)(w:Zc)(hp:w.cell? ⟨bp,0,none⟩=some (.pointer (some ⟨bc,0,none⟩)))(hc:Zu w bc 30 (Zi c)) :
  Xc 153 #[.pointer (some ⟨bp,0,none⟩)] w (.bool (Yx c 5)):=by
 have c5:=Xx hc 5;have c2:=Xx hc 2;clear hc;go_enter func153,ntmps153;exact yE
theorem Zhz (bp bc:Nat)(c:Nat->Int)(w:Zc)(hp:w.cell? ⟨bp,0,none⟩=some (.pointer (some ⟨bc,0,none⟩)))(hc:Zu w bc 30 (Zi c)) :
  Xc 154 #[.pointer (some ⟨bp,0,none⟩)] w (.bool (Yx c 6)):=by
 have c6:=Xx hc 6;have c3:=Xx hc 3;have c4:=Xx hc 4;clear hc;go_enter func154,ntmps154;exact yE
theorem ZhA (bp bc:Nat)(c:Nat->Int)(w:Zc)(hp:w.cell? ⟨bp,0,none⟩=some (.pointer (some ⟨bc,0,none⟩)))(hc:Zu w bc 30 (Zi c)) :
  Xc 155 #[.pointer (some ⟨bp,0,none⟩)] w (.bool (Yx c 7)):=by
 have c7:=Xx hc 7;clear hc;go_enter func155,ntmps155;exact ZeO
theorem ZhB (bp bc:Nat)(c:Nat->Int)(w:Zc)(hp:w.cell? ⟨bp,0,none⟩=some (.pointer (some ⟨bc,0,none⟩)))(hc:Zu w bc 30 (Zi c)) :
  Xc 156 #[.pointer (some ⟨bp,0,none⟩)] w (.bool (Yx c 8)):=by
 have c8:=Xx hc 8;clear hc;go_enter func156,ntmps156;go_wp2;exact jn
theorem ZhC (bp bc:Nat)(c:Nat->Int)(w:Zc)(hp:w.cell? ⟨bp,0,none⟩=some (.pointer (some ⟨bc,0,none⟩)))(hc:Zu w bc 30 (Zi c)) :
  Xc 157 #[.pointer (some ⟨bp,0,none⟩)] w (.bool (Yx c 9)):=by
 have c9:=Xx hc 9;clear hc;go_enter func157,ntmps157;go_wp2;exact jn
theorem Zca (bp bc:Nat)(c:Nat->Int)(w:Zc)(hp:w.cell? ⟨bp,0,none⟩=some (.pointer (some ⟨bc,0,none⟩)))(hc:Zu w bc 30 (Zi c)) :
  Xc 158 #[.pointer (some ⟨bp,0,none⟩)] w (.bool (Yx c 10)):=by
 have c10:=Xx hc 10;clear hc;go_enter func158,ntmps158;exact Tj
theorem Zcb (bp bc:Nat)(c:Nat->Int)(w:Zc)(hp:w.cell? ⟨bp,0,none⟩=some (.pointer (some ⟨bc,0,none⟩)))(hc:Zu w bc 30 (Zi c)) :
  Xc 159 #[.pointer (some ⟨bp,0,none⟩)] w (.bool (Yx c 11)):=by
 have c11:=Xx hc 11;have c10:=Xx hc 10;clear hc
 by_cases h1:c 10 < c 11
 ·have hd:decide (c 10 < c 11)=true:=QT;have H:=Za (show Yx c 11=decide (c 11<=1048576) by simp [Yx,h1]);exact ZeJ
 ·have hd:decide (c 10 < c 11)=false:=QT;have H:=Za (show Yx c 11=false by simp [Yx,h1]);exact ZeJ
theorem Zcc (bp bc:Nat)(c:Nat->Int)(w:Zc)(hp:w.cell? ⟨bp,0,none⟩=some (.pointer (some ⟨bc,0,none⟩)))(hc:Zu w bc 30 (Zi c)) :
  Xc 160 #[.pointer (some ⟨bp,0,none⟩)] w (.bool (Yx c 12)):=by
 have c12:=Xx hc 12;clear hc;go_enter func160,ntmps160;exact Tj
theorem Zcd (bp bc:Nat)(c:Nat->Int)(w:Zc)(hp:w.cell? ⟨bp,0,none⟩=some (.pointer (some ⟨bc,0,none⟩)))(hc:Zu w bc 30 (Zi c)) :
  Xc 161 #[.pointer (some ⟨bp,0,none⟩)] w (.bool (Yx c 13)):=by
 have c13:=Xx hc 13;clear hc;go_enter func161,ntmps161;exact Tj
theorem Zce (bp bc:Nat)(c:Nat->Int)(w:Zc)(hp:w.cell? ⟨bp,0,none⟩=some (.pointer (some ⟨bc,0,none⟩)))(hc:Zu w bc 30 (Zi c)) :
  Xc 162 #[.pointer (some ⟨bp,0,none⟩)] w (.bool (Yx c 14)):=by
 have c14:=Xx hc 14;clear hc;go_enter func162,ntmps162;exact Tj
theorem Zcf (bp bc:Nat)(c:Nat->Int)(w:Zc)(hp:w.cell? ⟨bp,0,none⟩=some (.pointer (some ⟨bc,0,none⟩)))(hc:Zu w bc 30 (Zi c)) :
  Xc 163 #[.pointer (some ⟨bp,0,none⟩)] w (.bool (Yx c 15)):=by
 have c15:=Xx hc 15;clear hc;go_enter func163,ntmps163;exact Tj
theorem Zcg (bp bc:Nat)(c:Nat->Int)(w:Zc)(hp:w.cell? ⟨bp,0,none⟩=some (.pointer (some ⟨bc,0,none⟩)))(hc:Zu w bc 30 (Zi c)) :
  Xc 164 #[.pointer (some ⟨bp,0,none⟩)] w (.bool (Yx c 16)):=by
 have c16:=Xx hc 16;have c14:=Xx hc 14;have c15:=Xx hc 15;clear hc
 by_cases h1:0<=c 16
 ·have hd:decide (0<=c 16)=true:=QT;have H:=Za (show Yx c 16=decide (c 16 < min (c 14) (c 15)) by simp [Yx,h1,Int.lt_min]);exact ZeK
 ·have hd:decide (0<=c 16)=false:=QT;have H:=Za (show Yx c 16=false by simp [Yx,h1]);exact ZeK
theorem Zch (bp bc:Nat)(c:Nat->Int)(w:Zc)(hp:w.cell? ⟨bp,0,none⟩=some (.pointer (some ⟨bc,0,none⟩)))(hc:Zu w bc 30 (Zi c)) :
  Xc 165 #[.pointer (some ⟨bp,0,none⟩)] w (.bool (Yx c 17)):=by
 have c17:=Xx hc 17;clear hc;go_enter func165,ntmps165;exact Tj
theorem Zci (bp bc:Nat)(c:Nat->Int)(w:Zc)(hp:w.cell? ⟨bp,0,none⟩=some (.pointer (some ⟨bc,0,none⟩)))(hc:Zu w bc 30 (Zi c)) :
  Xc 166 #[.pointer (some ⟨bp,0,none⟩)] w (.bool (Yx c 18)):=by
 have c18:=Xx hc 18;have c19:=Xx hc 19;clear hc;go_enter func166,ntmps166;exact Zft
theorem Zcj (bp bc:Nat)(c:Nat->Int)(w:Zc)(hp:w.cell? ⟨bp,0,none⟩=some (.pointer (some ⟨bc,0,none⟩)))(hc:Zu w bc 30 (Zi c)) :
  Xc 167 #[.pointer (some ⟨bp,0,none⟩)] w (.bool (Yx c 19)):=by
 have c19:=Xx hc 19;clear hc;go_enter func167,ntmps167;exact ZeO
end
section
open Go.RowKit
theorem Zio (c:Nat->Int)(w:Zc) :
  Z3 28 #[.agg (Zi c),.int .i64 1] w (.bool (Yx c 0)):=Sm
theorem Zit (c:Nat->Int)(w:Zc) :
  Z3 28 #[.agg (Zi c),.int .i64 5] w (.bool (Yx c 4)):=by
 by_cases h1:c 3<=c 4
 ·have hd:decide (c 3<=c 4)=true:=QT;have H:=Za (show Yx c 4=decide (c 4<=1152921504606846976) by simp [Yx,NS,cr,h1]);exact OK
 ·have hd:decide (c 3<=c 4)=false:=QT;have H:=Za (show Yx c 4=false by simp [Yx,NS,h1]);exact OK
theorem Zix (c:Nat->Int)(w:Zc) :
  Z3 28 #[.agg (Zi c),.int .i64 9] w (.bool (Yx c 8)):=Sm
theorem Zc5 (c:Nat->Int)(w:Zc) :
  Z3 28 #[.agg (Zi c),.int .i64 13] w (.bool (Yx c 12)):=Sm
theorem Zc9 (c:Nat->Int)(w:Zc) :
  Z3 28 #[.agg (Zi c),.int .i64 17] w (.bool (Yx c 16)):=by
 by_cases h1:0<=c 16
 ·have hd:decide (0<=c 16)=true:=QT
  by_cases h2:c 16 < c 14
  ·have vE:decide (c 16 < c 14)=true:=by simpa using h2
   have H:=Za (show Yx c 16=decide (c 16 < c 15) by simp [Yx,h1,h2]);exact OK
  ·have vE:decide (c 16 < c 14)=false:=by simpa using h2
   have H:=Za (show Yx c 16=false by simp [Yx,h2]);exact OK
 ·have hd:decide (0<=c 16)=false:=QT;have H:=Za (show Yx c 16=false by simp [Yx,h1]);exact OK
end
section
open Go.RowKit
theorem Ziq (c:Nat->Int)(w:Zc) :
  Z3 28 #[.agg (Zi c),.int .i64 2] w (.bool (Yx c 1)):=Sm
theorem Ziu (c:Nat->Int)(w:Zc) :
  Z3 28 #[.agg (Zi c),.int .i64 6] w (.bool (Yx c 5)):=by
 by_cases h1:1<=c 5
 ·have hd:decide (1<=c 5)=true:=QT;have H:=Za (show Yx c 5=decide (c 5<=c 2) by simp [Yx,NS,h1]);exact OK
 ·have hd:decide (1<=c 5)=false:=QT;have H:=Za (show Yx c 5=false by simp [Yx,NS,h1]);exact OK
theorem Ziy (c:Nat->Int)(w:Zc) :
  Z3 28 #[.agg (Zi c),.int .i64 10] w (.bool (Yx c 9)):=Sm
theorem Zc6 (c:Nat->Int)(w:Zc) :
  Z3 28 #[.agg (Zi c),.int .i64 14] w (.bool (Yx c 13)):=Sm
theorem Zda (c:Nat->Int)(w:Zc) :
  Z3 28 #[.agg (Zi c),.int .i64 18] w (.bool (Yx c 17)):=Sm
end
section
open Go.RowKit
theorem Zir (c:Nat->Int)(w:Zc) :
  Z3 28 #[.agg (Zi c),.int .i64 3] w (.bool (Yx c 2)):=Sm
theorem Ziv (c:Nat->Int)(w:Zc) :
  Z3 28 #[.agg (Zi c),.int .i64 7] w (.bool (Yx c 6)):=by
 by_cases h1:c 3<=c 6
 ·have hd:decide (c 3<=c 6)=true:=QT;have H:=Za (show Yx c 6=decide (c 6<=c 4) by simp [Yx,NS,h1]);exact OK
 ·have hd:decide (c 3<=c 6)=false:=QT;have H:=Za (show Yx c 6=false by simp [Yx,NS,h1]);exact OK
theorem Zc3 (c:Nat->Int)(w:Zc) :
  Z3 28 #[.agg (Zi c),.int .i64 11] w (.bool (Yx c 10)):=Sm
theorem Zc7 (c:Nat->Int)(w:Zc) :
  Z3 28 #[.agg (Zi c),.int .i64 15] w (.bool (Yx c 14)):=Sm
theorem Zdb (c:Nat->Int)(w:Zc) :
  Z3 28 #[.agg (Zi c),.int .i64 19] w (.bool (Yx c 18)):=Sm
end
section
open Go.RowKit
theorem Zis (c:Nat->Int)(w:Zc) :
  Z3 28 #[.agg (Zi c),.int .i64 4] w (.bool (Yx c 3)):=Sm
theorem Ziw (c:Nat->Int)(w:Zc) :
  Z3 28 #[.agg (Zi c),.int .i64 8] w (.bool (Yx c 7)):=by
 by_cases h1:1<=c 7
 ·have hd:decide (1<=c 7)=true:=QT;have H:=Za (show Yx c 7=decide (c 7<=1152921504606846976) by simp [Yx,NS,cr,h1]);exact OK
 ·have hd:decide (1<=c 7)=false:=QT;have H:=Za (show Yx c 7=false by simp [Yx,NS,h1]);exact OK
theorem Zc4 (c:Nat->Int)(w:Zc) :
  Z3 28 #[.agg (Zi c),.int .i64 12] w (.bool (Yx c 11)):=by
 by_cases h1:c 10 < c 11
 ·have hd:decide (c 10 < c 11)=true:=QT;have H:=Za (show Yx c 11=decide (c 11<=1048576) by simp [Yx,h1]);exact OK
 ·have hd:decide (c 10 < c 11)=false:=QT;have H:=Za (show Yx c 11=false by simp [Yx,h1]);exact OK
theorem Zc8 (c:Nat->Int)(w:Zc) :
  Z3 28 #[.agg (Zi c),.int .i64 16] w (.bool (Yx c 15)):=Sm
theorem Zdc (c:Nat->Int)(w:Zc) :
  Z3 28 #[.agg (Zi c),.int .i64 20] w (.bool (Yx c 19)):=by
 by_cases h1:1<=c 19
 ·have hd:decide (1<=c 19)=true:=QT;have H:=Za (show Yx c 19=decide (c 19<=4294967296) by simp [Yx,NS,h1]);exact OK
 ·have hd:decide (1<=c 19)=false:=QT;have H:=Za (show Yx c 19=false by simp [Yx,NS,h1]);exact OK
end
section
open Go.RowKit
theorem aq (c:Nat->Int)(k:Nat)(hk:k < 20)(w:Zc) :
  Z3 28 #[.agg (Zi c),.int .i64 ((k:Int)+1)] w (.bool (Yx c k)):=by
 have:k=0\/k=1\/k=2\/k=3\/k=4\/k=5\/k=6\/k=7\/k=8\/k=9\/k=10\/k=11\/k=12\/k=13\/k=14\/k=15\/k=16\/k=17\/k=18\/k=19:=Zf
 rcases this with rfl | rfl | rfl | rfl | rfl | rfl | rfl | rfl | rfl | rfl | rfl | rfl | rfl | rfl | rfl | rfl | rfl | rfl | rfl | rfl
 ·exact Zio c w
 ·exact Ziq c w
 ·exact Zir c w
 ·exact Zis c w
 ·exact Zit c w
 ·exact Ziu c w
 ·exact Ziv c w
 ·exact Ziw c w
 ·exact Zix c w
 ·exact Ziy c w
 ·exact Zc3 c w
 ·exact Zc4 c w
 ·exact Zc5 c w
 ·exact Zc6 c w
 ·exact Zc7 c w
 ·exact Zc8 c w
 ·exact Zc9 c w
 ·exact Zda c w
 ·exact Zdb c w
 ·exact Zdc c w
end
section
open Go.RowKit
theorem wD:(Tryz.prog.info? 3).map (fun i=>(i.zero,i.size,i.bytes))=some (some (.int .i64 0),1,8):=ZC
def XS (w:Zc)(S:Nat->Prop)(a:Option Addr)(L:List Int) :Prop:=
 0 < L.length-> ∃b off,a=some ⟨b,off,none⟩/\ ¬S b/\b < w.heap.size/\ ∀j,j < L.length->w.cell? ⟨b,off+j,none⟩=some (.int .i64 (L.getD j 0))
section
variable {w w':Zc} {S T:Nat->Prop} {a:Option Addr} {L:List Int}
theorem XS.nil (w:Zc)(S:Nat->Prop)(a:Option Addr) :XS w S a []:=fun h=>by simp at h
theorem XS.kept (h:XS w S a L)(k:ZA T w w')(hT: ∀i,i < w.heap.size->T i->S i) :XS w' S a L:=fun hl=>by
 obtain ⟨b,off,e,hn,hb,hc⟩:=h hl;exact ⟨b,off,e,hn,YC hb k.size,fun j hj=>k.cell (fun ht=>hn (hT _ hb ht)) (hc j hj)⟩
theorem XS.other (h:XS w S a L)(hT: ∀i,i < w.heap.size->T i->S i) :XS w T a L:=fun hl=>by
 obtain ⟨b,off,e,hn,hb,hc⟩:=h hl;exact ⟨b,off,e,fun ht=>hn (hT _ hb ht),hb,hc⟩
theorem XS.below (h:XS w S a L)(hb:Below w.heap.size w w') :XS w' S a L:=fun hl=>by
 obtain ⟨b,off,e,hn,Dg,hc⟩:=h hl;exact ⟨b,off,e,hn,YC Dg hb.size,fun j hj=>(hb.cell (p:=⟨b,off+j,none⟩) Dg).trans (hc j hj)⟩
theorem XS.of_blk {g:Nat}{t:TypeId}(h:Zu w g t (L.map (ZG .i64)).toArray)(hn: ¬S g) :XS w S (some ⟨g,0,none⟩) L:=fun hl=>
 ⟨g,0,rfl,hn,h.lt,fun j hj=>by
  rw [Nat.zero_add,h.cell,List.getElem?_toArray,List.getElem?_map,List.getD_eq_getElem?_getD,List.getElem?_eq_getElem hj];rfl⟩
theorem j8 (a1 a2:Option Addr)(n c m d:Nat)(w:Zc)(nW:n≠m) :
  Calls Zb 14 #[.slice a1 n c,.slice a2 m d] w fun e w'=>e= .returned (.bool false)/\w'=w:=Any.slices_Equal_int_lens Tryz.lays111 a1 a2 n c m d w nW
theorem qE {a2:Option Addr}{L2:List Int}{c d n m:Nat}{S2:Nat->Prop}(h1:XS w S a L)(h2:XS w S2 a2 L2)(hn:L.length=n)(hm:L2.length=m)(bn:n<=9223372036854775807)(bm:m<=9223372036854775807) :
  Xc 14 #[.slice a n c,.slice a2 m d] w (.bool (decide (L=L2))):=by
 subst hn hm
 by_cases e:L.length=L2.length
 ·by_cases h0:L.length=0
  ·have x1:L=[]:=ZO h0;have x2:L2=[]:=ZO Zf;subst x1 x2;exact (Tryz.slices_Equal_int_empty a a2 c 0 d w Zf).mono fun e w' ⟨he,hw⟩=>⟨by simpa using he,0,hw⟩
  ·obtain ⟨b1,o1,rfl,_,_,c1⟩:=h1 Zf;obtain ⟨b2',o2,rfl,_,_,c2⟩:=h2 Zf;exact (Tryz.slices_Equal_int b1 o1 L.length c b2' o2 L2.length d L L2 w Zf Zf bn bm c1 c2).mono fun e w' ⟨he,hw⟩=>⟨by rw [he,J1,J1]; exact Uo (by rw [Bool.eq_iff_iff]; simp),hw⟩
 ·exact (j8 a a2 L.length c L2.length d w e).mono fun e' w' ⟨he,hw⟩=>⟨by rw [he]; exact Uo (by symm; simp; rintro rfl; exact e rfl),0,hw⟩
theorem WQ {a2:Option Addr}{c d n:Nat}{S2:Nat->Prop}(h1:XS w S a L)(h2:XS w S2 a2 L)(hn:L.length=n)(b1:n<=9223372036854775807) :
  Xc 14 #[.slice a n c,.slice a2 n d] w (.bool true):=by
 have:=qE h1 h2 hn hn b1 b1 (c:=c) (d:=d);exact DI
theorem QC {base n:Nat}{v:Zl}(h:w.ownsRow base 3 1 v n (L.map (ZG .i64)))(hS: ∀i,v.ownBlock=some i-> ¬S i) : ∃a cp,v= .slice a n cp/\L.length=n/\n<=cp/\cp<=maxLen/\XS w S a L:=by
 have hl:=h.1;rw [Yt,Nat.mul_one] at hl
 rcases h.2 with ⟨rfl,h2⟩ | ⟨g,cp,cur,rfl,h1,h3,h4,h5,h6,h7⟩
 ·subst h2;obtain rfl:=ZO hl;exact ⟨none,0,rfl,rfl,by omega,by unfold maxLen; omega,XS.nil _ _ _⟩
 ·refine ⟨_,cp,rfl,hl,h4,h5,fun h0=>⟨g,0,rfl,hS g rfl,(Yj.1 h3).1,fun j hj=>?_⟩⟩;have:=h.cells (g:=g) rfl j (.int .i64 (L.getD j 0)) dy;rwa [add_plain] at this
theorem Gj: ∃i,Tryz.prog.info? 3=some i/\i.zero=some (.int .i64 0)/\i.size=1/\i.bytes=8:=by
 have h:=wD
 cases hi:Tryz.prog.info? 3 with
 | none=>exact LV
 | some i=>
  exact Oa
end
end
section
open Go Go.RowKit
def ZdN (w:Zc)(S:Nat->Prop)(a:Option Addr)(L:List Bool) :Prop:=
 0 < L.length-> ∃b off,a=some ⟨b,off,none⟩/\ ¬S b/\b < w.heap.size/\ ∀j,j < L.length->w.cell? ⟨b,off+j,none⟩=some (.bool (L.getD j false))
theorem F7 {w w':Zc}{S:Nat->Prop}{base n size:Nat}{e:TypeId}{v:Zl}{xs:List Zl}(h:w.ownsRow base e size v n xs)(k:ZA S w w')(hn: ∀g,v.ownBlock=some g-> ¬S g) :w'.ownsRow base e size v n xs:=by
 obtain ⟨h1,h2⟩:=h;refine ⟨h1,?_⟩
 rcases h2 with h2 | ⟨g,cap,cur,rfl,h3,h4,h5⟩
 ·exact .inl h2
 ·exact .inr ⟨g,cap,cur,rfl,h3,Zu.kept (w:=w) h4 k (hn g rfl),h5⟩
theorem xi {w:Zc}{base n:Nat}{v:Zl}{xs:List Zl}(h:w.ownsRow base 3 1 v n xs) : ∃a cp,v= .slice a n cp:=yQ
def IC (w:Zc)(c s:Nat)(L:List Bool)(v p:Int)(e:Ending)(w':Zc) :Prop:=
 ∃(m:Nat) (a:Option Addr) (cp:Nat),e= .returned (.tuple #[.slice a (KU L s m).length cp,.int .i64 m])/\Tr L s v p m/\Zj (XS w' (fun i=>i < w.heap.size) a (KU L s m))/\Zj (th w' c (ER L.length s m))/\ZA (fun i=>i=c) w w'
theorem sN (c s:Nat)(a:Option Addr)(cap:Nat)(L:List Bool)(v p:Int)(w:Zc)(hc:th w c s)(hs:s<=100)(hL:L.length<=100)(hb:ZdN w (fun i=>i=c) a L) :
  Calls Zb 248 #[.pointer (some ⟨c,0,none⟩),.slice a L.length cap,.int .i64 v,.int .i64 p] w (IC w c s L v p):=by
 obtain ⟨i0,hi,GO,GF,EO⟩:=Gj;obtain ⟨n,hn⟩:=ZR (L.length);rw [hn] at hL;rw [hn];have HN:=Za hn;have HC:=Za hc;have HB:=Za hb;have H:=Za (fun w=>gC c n w);have FA:=hc.lt;clear hn hc hb;go_enter func248,ntmps248;go_wp2;go_step3;go_wp2_with fail;refine (H.o _).mono ?_;rintro e w1 ⟨rfl,rfl⟩;go_wp2_with fail;go_step3;go_wp2;have HP:Zj (Zu ((w.alloc (.cells #[.pointer (some ⟨c,0,none⟩)] 85)).alloc (.cells #[.int .i64 n] 3)) w.heap.size 85 #[.pointer (some ⟨c,0,none⟩)]):=Za ((Zs w _ _).alloc _);have HQ:Zj (Zu ((w.alloc (.cells #[.pointer (some ⟨c,0,none⟩)] 85)).alloc (.cells #[.int .i64 n] 3)) (w.heap.size+1) 3 #[.int .i64 n]):=Za (by have:=Zs (w.alloc (.cells #[.pointer (some ⟨c,0,none⟩)] 85)) 3 #[.int .i64 (n:Int)]; simpa using this);have HK:Zj (ZA (fun i=>i=c) w ((w.alloc (.cells #[.pointer (some ⟨c,0,none⟩)] 85)).alloc (.cells #[.int .i64 n] 3))/\w.heap.size+2<=((w.alloc (.cells #[.pointer (some ⟨c,0,none⟩)] 85)).alloc (.cells #[.int .i64 n] 3)).heap.size):=Za ⟨((ZA.refl _ w).alloc _).alloc _,by simp⟩;have HC1:=Za ((HC.o.alloc (.cells #[.pointer (some ⟨c,0,none⟩)] 85)).alloc (.cells #[.int .i64 (n:Int)] 3));clear HC H;generalize hz:w.heap.size=z at*;have HZ:=Za hz;clear hz;go_loopg [10,11] n (fun g s10 s11 wr=> ∃(k q:Nat) (a1:Option Addr) (c1:Nat),k+g=n/\q<=k/\s10= .slice a1 q c1/\s11= .int .i64 k/\Zj ((KU L s k).length=q/\wr.ownsRow (z+2) 3 1 (.slice a1 q c1) q ((KU L s k).map (ZG .i64)))/\
  Zj (∀j,j < k->(j:Int)< v/\j < n/\((Kq L s j).length:Int)< p)/\Zj (th wr c (ER n s k))/\Zj (Zu wr z 85 #[.pointer (some ⟨c,0,none⟩)]/\Zu wr (z+1) 3 #[.int .i64 n])/\Zj (ZA (fun i=>i=c) w wr/\z+2<=wr.heap.size))
 case atStart=>exact ⟨0,0,none,0,by omega,by omega,rfl,rfl,Za ⟨rfl,World.ownsRow_nil _ _ _ _⟩,Za (fun j hj=>by omega),HC1,Za ⟨HP.o,HQ.o⟩,HK⟩
 case round=>
  obtain ⟨k,q,a1,c1,hkg,hqk,rfl,rfl,HO,HS,HC,Rd,HKK⟩:=hrel;clear HC1 HP HQ HK;have Ub: ∀m,m=k->(v<=(k:Int)\/n<=k\/p<=(q:Int))->IC w c s L v p (.returned (.tuple #[.slice a1 q c1,.int .i64 k])) wr:=by
   rintro m rfl GN;have h1:=HO.o.1;obtain ⟨a2,c2,e,_,_,_,Gi⟩:=QC (S:=fun i=>i < w.heap.size) HO.o.2 (fun i hi=>by
    have:=HO.o.2.2
    rcases this with ⟨e,_⟩ | ⟨g,cp,cur,e,hb,_⟩
    ·rw [e] at hi; cases hi
    ·rw [e] at hi; injection hi with hi; subst hi; have hb':z+2<=g:=hb; show ¬g < _; rw [HZ.o]; omega)
   injection e with e1 _ e2;subst e1 e2;refine ⟨m,a1,c1,by rw [h1],⟨by rw [HN.o,<-ah,h1]; exact GN,by rw [HN.o]; exact HS.o⟩,Za Gi,Za (by rw [HN.o]; exact HC.o),HKK.o.1⟩
  by_cases h1:v<=(k:Int)
  ·have he:=Za (Ub k rfl (.inl h1));exact zh
  by_cases h2:n<=k
  ·have he:=Za (Ub k rfl (.inr (.inl h2)));exact zh
  by_cases h3:p<=(q:Int)
  ·have he:=Za (Ub k rfl (.inr (.inr h3)));exact zh
  clear Ub;obtain ⟨i,NV⟩ : ∃i,(s+k)%n=i:=⟨_,rfl⟩;have FX:i < n:=by rw [<-NV]; exact Nat.mod_lt _ Zf
  have H1:Zj (Calls Zb 293 #[.pointer (some ⟨z,0,none⟩),.pointer (some ⟨z+1,0,none⟩)] wr fun e w'=>e= .returned (.int .i64 (i:Int))/\Zj (th w' c (ER n s (k+1)))/\Zj (ZA (fun i=>i=c) wr w')):=Za (by
   refine (gT z (z+1) c (ER n s k) n wr Rd.o.1 Rd.o.2 HC.o (ZcR Zf hs Zf) Zf Zf).mono ?_;rintro e w' ⟨he,h2,h3⟩;rw [xo] at he h2;rw [rX] at h2;exact ⟨by rw [he,NV],Za h2,Za h3⟩)
  have HI:=Za NV;clear NV;obtain ⟨b,off,ha,hbc,Pq,KT⟩:=HB.o Wf;subst ha;have hx:=KT i Wf;obtain ⟨r,hr⟩:=ZR (L.getD i false);rw [hr] at hx;have HR:=Za hr;have HX:=Za hx;clear KT hx hr;have pH:Zj (∀j,j < k+1->(j:Int)< v/\j < n/\((Kq L s j).length:Int)< p):=Za (by
   have:=yc (L:=L) (s:=s) (v:=v) (p:=p) (m:=k) (by rw [HN.o]; exact HS.o) Zf Wf (by rw [<-ah,HO.o.1]; omega);rw [HN.o] at this;exact this)
  go_wp2_with fail;refine H1.o.mono ?_;rintro e w1 ⟨rfl,HC1,OV⟩;have hx1:w1.cell? ⟨b,off+i,none⟩=some (.bool r):=OV.o.cell hbc (HKK.o.1.cell hbc HX.o);have CL:Zj (w1.ownsRow (z+2) 3 1 (.slice a1 q c1) q ((KU L s k).map (ZG .i64))):=Za (F7 HO.o.2 OV.o (fun g hg e=>by
   have:=(HO.o.2.lt g hg).1;omega))
  have ZaN:Zj (Zu w1 z 85 #[.pointer (some ⟨c,0,none⟩)]/\Zu w1 (z+1) 3 #[.int .i64 n]):=Za ⟨Rd.o.1.kept OV.o Zf,Rd.o.2.kept OV.o Zf⟩;have tD:Zj (ZA (fun i=>i=c) w w1/\z+2<=w1.heap.size):=Za ⟨HKK.o.1.trans OV.o (fun _ _ h=>h),Nat.le_trans HKK.o.2 OV.o.size⟩;have HL:=Za HO.o.1;clear HC Rd HKK HO HX OV H1 HS
  cases r
  ·have HM:Zj ((KU L s (k+1)).length=q/\KU L s (k+1)=KU L s k):=Za (by
    have:=lF (L:=L) (s:=s) (k:=k) (by rw [HN.o,HI.o]; exact HR.o);exact ⟨by rw [this]; exact HL.o,this⟩)
   have Rh:Zj ((KU L s (k+1)).length=q/\w1.ownsRow (z+2) 3 1 (.slice a1 q c1) q ((KU L s (k+1)).map (ZG .i64))):=Za ⟨HM.o.1,by rw [HM.o.2]; exact CL.o⟩;clear CL HM HR HL;go_wp2;go_roundg (gk - 1)
   case measure=>omega
   case rel=>exact ⟨k+1,q,a1,c1,by omega,by omega,rfl,by go_num,Rh,pH,HC1,ZaN,tD⟩
  ·have HM:Zj ((KU L s (k+1)).length=q+1/\KU L s (k+1)=KU L s k++[(i:Int)]):=Za (by
    have:=rO (L:=L) (s:=s) (k:=k) (by rw [HN.o,HI.o]; exact HR.o);rw [HN.o,HI.o] at this;exact ⟨by rw [this,List.length_append,HL.o]; rfl,this⟩)
   go_wp2_with (at_builtin; refine wpList_append_own _ rfl _ _ 24 rfl (z+2) 3 i0 (.int .i64 0) 1 8 underlying24 hi GO GF EO rfl Y5 _ _ _ rfl (CL.o.alloc _) ⟨w1.heap.size,0,none⟩ 1 1 [.int .i64 (i:Int)] rfl rfl ?c1 ?c2 ?c3 ?c4 ?c5 ?_)
   case c1=>
    intro j u hj
    match j,hj with
    | 0,hj=>simp at hj; subst hj; simp [Addr.add]
   case c2=>intro u hu; simp at hu; subst hu; rfl
   case c3=>unfold maxLen; omega
   case c4=>omega
   case c5=>have:=tD.o.2; simp; omega
   intro v' w2 hown2 LD _;have hgr:Zu w2 z 85 #[.pointer (some ⟨c,0,none⟩)]/\Zu w2 (z+1) 3 #[.int .i64 n]/\th w2 c (ER n s (k+1))/\ZA (fun i=>i=c) w w2/\z+2<=w2.heap.size:=by
    have Kj: ∀i,i < z+2->some i≠(Value.slice a1 q c1).ownBlock:=fun i hi e=>by
     have:=(CL.o.lt i e.symm).1;omega
    have BK:=LD.size;refine ⟨((ZaN.o.1.alloc _).grown LD (Kj z Zf)),((ZaN.o.2.alloc _).grown LD (Kj (z+1) Zf)),(Zu.grown (Zu.alloc HC1.o _) LD (Kj c Zf)),?_,?_⟩
    ·have k1:ZA (fun i=>z<=i) w1 w2:=((ZA.refl _ w1).alloc _).trans (ZA.of_grown (S:=fun i=>z<=i) LD (fun i e=>by
      have:=(CL.o.lt i e.symm).1;omega)) (fun _ _ h=>h)
     exact tD.o.1.trans k1 (fun i h1 h2=>by rw [HZ.o] at h1; omega)
    ·have:=tD.o.2;simp at BK;omega
   have HBL2:Zj (Zu w2 z 85 #[.pointer (some ⟨c,0,none⟩)]/\Zu w2 (z+1) 3 #[.int .i64 n]):=Za ⟨hgr.1,hgr.2.1⟩;have pF:Zj (th w2 c (ER n s (k+1))):=Za hgr.2.2.1;have HKK2:Zj (ZA (fun i=>i=c) w w2/\z+2<=w2.heap.size):=Za hgr.2.2.2;obtain ⟨a2,c2,rfl⟩:=xi hown2;have Rh:Zj ((KU L s (k+1)).length=q+1/\w2.ownsRow (z+2) 3 1 (.slice a2 (q+1) c2) (q+1) ((KU L s (k+1)).map (ZG .i64))):=Za ⟨HM.o.1,by rw [HM.o.2,List.map_append]; exact hown2⟩;clear hgr LD hown2 CL HM HR HL ZaN HC1 tD hx1;go_wp2;go_roundg (gk - 1)
   case measure=>omega
   case rel=>exact ⟨k+1,q+1,a2,c2,by omega,by omega,rfl,by go_num,Rh,pH,pF,HBL2,HKK2⟩
end
section
open Go Go.RowKit Go.Lib
def Ss (w:Zc)(S:Nat->Prop)(a:Option Addr)(L:List Int) :Prop:=
 0 < L.length-> ∃b off,a=some ⟨b,off,none⟩/\ ¬S b/\b < w.heap.size/\ ∀j,j < L.length->w.cell? ⟨b,off+j,none⟩=some (.int .u64 (L.getD j 0))
def NI (L:List Int) :Prop:= ∀j,0<=L.getD j 0/\L.getD j 0<=18446744073709551615
def KK (L:List Int)(i:Int) :Int:=if 0<=i/\i < (L.length:Int) then L.getD i.toNat 0 else 0
section
variable {w w':Zc} {S T:Nat->Prop} {a:Option Addr} {L:List Int}
theorem Ss.nil (w:Zc)(S:Nat->Prop)(a:Option Addr) :Ss w S a []:=fun h=>by simp at h
theorem Ss.kept (h:Ss w S a L)(k:ZA T w w')(hT: ∀i,i < w.heap.size->T i->S i) :Ss w' S a L:=fun hl=>by
 obtain ⟨b,off,e,hn,hb,hc⟩:=h hl;exact ⟨b,off,e,hn,YC hb k.size,fun j hj=>k.cell (fun ht=>hn (hT _ hb ht)) (hc j hj)⟩
theorem Ss.below (h:Ss w S a L)(hb:Below w.heap.size w w') :Ss w' S a L:=fun hl=>by
 obtain ⟨b,off,e,hn,Dg,hc⟩:=h hl;exact ⟨b,off,e,hn,YC Dg hb.size,fun j hj=>(hb.cell (p:=⟨b,off+j,none⟩) Dg).trans (hc j hj)⟩
theorem Ss.drewN (h:Ss w S a L)(n:Nat) :Ss (w.drewN n) S a L:=h
theorem oO {i:Int}(h:i < 0\/(L.length:Int)<=i) :KK L i=0:=by rw [KK,if_neg Zf]
theorem ZiM {k:Nat}(h:k < L.length) :KK L k=L.getD k 0:=by rw [KK,if_pos Zf]; simp
theorem PY (h:NI L)(i:Int) :0<=KK L i/\KK L i<=18446744073709551615:=by
 unfold KK
 split
 ·exact h _
 ·exact ⟨by decide,by decide⟩
theorem Cr (cap:Nat)(i:Int)(w:Zc)(h:Ss w S a L)(hl:L.length<=9223372036854775807) :
  Y6 251 #[.slice a L.length cap,.int .i64 i] w (.int .u64 (KK L i)):=by
 by_cases h1:i < 0
 ·have HE:=Za (oO (L:=L) (.inl h1));exact yV
 ·by_cases h2:(L.length:Int)<=i
  ·have HE:=Za (oO (L:=L) (.inr h2));exact yV
  ·obtain ⟨k,rfl,hk⟩ : ∃k:Nat,i=k/\k < L.length:=⟨i.toNat,by omega,by omega⟩;have he:=ZiM hk;obtain ⟨b,off,rfl,_,_,hc⟩:=h Zf;have KT:=hc k hk;generalize L.getD k 0=x at KT he;have HE:=Za he;clear hc he;exact yV
end
end
section
open Go Go.RowKit
section
variable {w:Zc} {S:Nat->Prop} {L:List Int} {a:Option Addr} {n:Nat}
theorem Ho {base n:Nat}{v:Zl}(h:w.ownsRow base 23 1 v n (L.map (ZG .u64)))(hS: ∀i,v.ownBlock=some i-> ¬S i) : ∃a cp,v= .slice a n cp/\L.length=n/\n<=cp/\Ss w S a L:=by
 have hl:=h.1;rw [Yt,Nat.mul_one] at hl
 rcases h.2 with ⟨rfl,h2⟩ | ⟨g,cp,cur,rfl,h1,h3,h4,h5,h6,h7⟩
 ·subst h2;obtain rfl:=ZO hl;exact ⟨none,0,rfl,rfl,by omega,Ss.nil _ _ _⟩
 ·refine ⟨_,cp,rfl,hl,h4,fun h0=>⟨g,0,rfl,hS g rfl,(Yj.1 h3).1,fun j hj=>?_⟩⟩;have:=h.cells (g:=g) rfl j (.int .u64 (L.getD j 0)) dy;rwa [add_plain] at this
end
end
section
open Go.RowKit
def De (bp bc:Nat) :Array Zl:= #[.pointer (some ⟨bc,0,none⟩),.pointer none,.func (.func 146) #[] #[.pointer (some ⟨bp,0,none⟩)],.pointer (some ⟨bc,1,none⟩),.pointer none,.func (.func 148) #[] #[.pointer (some ⟨bp,0,none⟩)],.pointer none,.pointer (some ⟨bc,2,none⟩),.func (.func 149) #[] #[.pointer (some ⟨bp,0,none⟩)],.pointer none,.pointer (some ⟨bc,3,none⟩),.func (.func 150) #[] #[.pointer (some ⟨bp,0,none⟩)],.pointer none,.pointer (some ⟨bc,4,none⟩),.func (.func 151) #[] #[.pointer (some ⟨bp,0,none⟩)],.pointer none,.pointer (some ⟨bc,5,none⟩),.func (.func 153) #[] #[.pointer (some ⟨bp,0,none⟩)],.pointer none,.pointer (some ⟨bc,6,none⟩),.func (.func 154) #[] #[.pointer (some ⟨bp,0,none⟩)],.pointer none,.pointer (some ⟨bc,7,none⟩),.func (.func 155) #[] #[.pointer (some ⟨bp,0,none⟩)],.pointer none,.pointer (some ⟨bc,8,none⟩),.func (.func 156) #[] #[.pointer (some ⟨bp,0,none⟩)],.pointer none,.pointer (some ⟨bc,9,none⟩),.func (.func 157) #[] #[.pointer (some ⟨bp,0,none⟩)],.pointer (some ⟨bc,10,none⟩),.pointer none,.func (.func 158) #[] #[.pointer (some ⟨bp,0,none⟩)],.pointer (some ⟨bc,11,none⟩),.pointer none,.func (.func 159) #[] #[.pointer (some ⟨bp,0,none⟩)],.pointer (some ⟨bc,12,none⟩),.pointer none,.func (.func 160) #[] #[.pointer (some ⟨bp,0,none⟩)],.pointer (some ⟨bc,13,none⟩),.pointer none,.func (.func 161) #[] #[.pointer (some ⟨bp,0,none⟩)],.pointer (some ⟨bc,14,none⟩),.pointer none,.func (.func 162) #[] #[.pointer (some ⟨bp,0,none⟩)],.pointer (some ⟨bc,15,none⟩),.pointer none,.func (.func 163) #[] #[.pointer (some ⟨bp,0,none⟩)],.pointer (some ⟨bc,16,none⟩),.pointer none,.func (.func 164) #[] #[.pointer (some ⟨bp,0,none⟩)],.pointer (some ⟨bc,17,none⟩),.pointer none,.func (.func 165) #[] #[.pointer (some ⟨bp,0,none⟩)],.pointer none,.pointer (some ⟨bc,18,none⟩),.func (.func 166) #[] #[.pointer (some ⟨bp,0,none⟩)],.pointer none,.pointer (some ⟨bc,19,none⟩),.func (.func 167) #[] #[.pointer (some ⟨bp,0,none⟩)]]
theorem uQ (bp bc:Nat) :(De bp bc).all (·.oneCell')=true:=ZC
theorem wy:(Tryz.prog.info? 178).map (·.size)=some 60:=ZC
theorem ft (bc:Nat)(w:Zc) :
  Calls Zb 119 #[.pointer (some ⟨bc,0,none⟩)] w fun e w'=>e= .returned (.agg (De w.heap.size bc))/\Zu w' w.heap.size 180 #[.pointer (some ⟨bc,0,none⟩)]/\Below w.heap.size w w':=by
 go_enter func119,ntmps119;go_wp2;refine CA 101 3 ZC rfl ZC rfl ?_;intro ops W hW;have hp:W.cell? ⟨w.heap.size,0,none⟩=some (.pointer (some ⟨bc,0,none⟩)):=by
  rw [hW]; exact ((Zs w 180 #[.pointer (some ⟨bc,0,none⟩)]).alloc _).cell 0
 have EU:=Za (show Zu W w.heap.size 180 #[.pointer (some ⟨bc,0,none⟩)] by rw [hW]; exact (Zs w 180 #[.pointer (some ⟨bc,0,none⟩)]).alloc _);have GI:=Za (show ∃old:Array Zl,old.size=60/\Zu W (w.heap.size+1) 178 old by
  rw [hW];exact ⟨_,rfl,heap_alloc2_new w _ _⟩)
 have HB:=Za (show Below w.heap.size w W by rw [hW]; exact (((Below.refl _ _).alloc (Nat.le_refl _) _).alloc ZE _).drew);clear hW;iterate 101 still_step
 refine wpStill_nil ?_;obtain ⟨old,hs,Dg⟩:=GI.o;refine wpList_store_row rfl _ _ _ rfl (w.heap.size+1) (De w.heap.size bc) rfl rfl 178 old Dg wy (by rw [hs]; rfl) (uQ _ _) ?_;have HS:=Za hs;have H2:=Za Dg;clear hs Dg;go_wp2;refine bodyPost_ret (v:= .agg (De w.heap.size bc)) (results_cell_row (fn:=Tryz.f119) rfl _ _ (w.heap.size+1) 178 (De w.heap.size bc) (0,0) _ rfl (setRow_heap W _ old _ 178 (0,0) H2.o) underlying178 rfl wy) rfl ⟨rfl,?_,below_setRow HB.o Zf _⟩;exact (setRow_other W _ _ _ Zf).trans EU.o
end
end Go.Proofs.YtobgbcdgffgdhaaGreat
