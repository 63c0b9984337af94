/- Part 10 of 31: L03Holds L03Right0 L03Right1 L03Right2 L03Right3 L03Right L08Ints L09Sweep L13Amts L13UOwn L03Entries. -/
import Derived.Test.YtobgbcdgffgdhaaGreatZw00
import Derived.Test.YtobgbcdgffgdhaaGreatZw05
import Derived.Shelf.Slices.Empties2
import Derived.Test.YtobgbcdgffgdhaaGreatShelf
namespace Go.Proofs.YtobgbcdgffgdhaaGreat
set_option linter.unusedVariables false
set_option linter.unusedSimpArgs false
set_option maxRecDepth 100000
set_option maxHeartbeats 8000000
open _root_.Array renaming getElem?_eq_some_iff -> Ym
open _root_.Go.Proofs.YtobgbcdgffgdhaaGreat.Zu renaming new -> Zt
open _root_.List renaming eq_nil_of_length_eq_zero -> ZR, getD_eq_getElem?_getD -> Zm, getElem?_eq_getElem -> Zg, getElem?_map -> ZH, getElem?_toArray -> Xe, length_map -> YG, take_length -> Vc
open _root_.Nat renaming lt_of_lt_of_le -> YE, zero_add -> ZV
open _root_.Go.Proofs.Tryz renaming prog -> Zb
open _root_.Go renaming Value -> Zk, World -> Zc
open _root_.Go.Value renaming int -> ZI
open Go.Proofs.Tryz
theorem IW {G:Prop}(h:G:=by rw [HN.o]; omega) :G:=h
theorem iW {G:Prop}(h:G:=by rw [List.getElem?_map,List.getD_eq_getElem?_getD,List.getElem?_eq_getElem hj]; rfl) :G:=h
theorem ZbL {G:Prop} (h:G:=by
  go_wp2_with (fail);go_quiet (fail);go_wp2_with (fail);go_ret;exact ⟨VJ H.o.symm,_,rfl⟩) :G:=h
theorem ZbX {G:Prop} (h:G:=by
  go_ret;exact ⟨rfl,(Below.refl _ _).alloc (Nat.le_refl _) _⟩) :G:=h
theorem uH {G:Prop} (h:G:=by
  go_wp2;go_ret;exact ⟨VJ H.o.symm,rfl⟩) :G:=h
theorem dV {G:Prop} (h:G:=by
  go_ret;exact ⟨rfl,0,rfl⟩) :G:=h
theorem M5 {G:Prop} (h:G:=by
  unfold Zi;go_enter func28,ntmps28;go_wp2_with (first | (go_at_call 52; refine (PD _ _ _ _).mono ?_; rintro e w' ⟨rfl,rfl⟩));go_ret;exact ⟨VJ H.o.symm,(Below.refl _ _).alloc (Nat.le_refl _) _⟩) :G:=h
theorem Px {G:Prop} (h:G:=by
  unfold Zi;go_enter func28,ntmps28;go_wp2_with (first | (go_at_call 52; refine (PD _ _ _ _).mono ?_; rintro e w' ⟨rfl,rfl⟩));exact ZbX) :G:=h
theorem Zij {G:Prop} (h:G:=by
  go_enter func159,ntmps159;exact ZbL) :G:=h
theorem Zik {G:Prop} (h:G:=by
  go_enter func164,ntmps164;exact ZbL) :G:=h
theorem Zev {G:Prop} (h:G:=by
  go_wp2_with (fail);go_quiet ((go_at_call 152; exact Bb (P9 _ _ _ _)));go_wp2_with (fail);exact Ch) :G:=h
theorem dW {G:Prop} (h:G:=by
  go_wp2_with (first | (go_at_call 147; refine (dM _ _ _ _).mono ?_; rintro e w' ⟨rfl,rfl⟩));exact dV) :G:=h
theorem Zin {G:Prop} (h:G:=by
  go_wp2_with (first | (go_at_call 152; refine (P9 _ _ _ _).mono ?_; rintro e w' ⟨rfl,rfl⟩));exact dV) :G:=h
theorem tN {G:Prop} (h:G:=by
  rcases h.2 with ⟨rfl,rfl⟩ | ⟨g,cp,cur,rfl,_⟩
  ·exact ⟨none,0,rfl⟩
  ·exact ⟨_,cp,rfl⟩) :G:=h
theorem tQ {G:Prop} (h:G:=by
  go_enter func147,ntmps147;exact uH) :G:=h
theorem tR {G:Prop} (h:G:=by
  go_enter func152,ntmps152;exact uH) :G:=h
theorem tS {G:Prop} (h:G:=by
  go_enter func251,ntmps251;go_wp2;go_ret;exact ⟨by rw [HE.o]; rfl,rfl⟩) :G:=h
theorem tU {G:Prop} (h:G:=by
  go_enter func52,ntmps52;exact uH) :G:=h
theorem Za4 {G:Prop} (h:G:=by
  go_wp2_with (fail);go_quiet (fail);go_wp2_with (fail);exact Ch) :G:=h
theorem ue {G:Prop} (h:G:=by
  clear Vx;go_wp2;try rw [Exit.noGoto_ret]
  go_ret2;exact he.o) :G:=h
section
open Go.RowKit
theorem Cw {v lo hi:Int}(h:lo<=v)(h':v<=hi) :Mr v lo hi=true:=by unfold Mr; simp; omega
theorem OI {v lo hi:Int}(h:v < lo\/hi < v) :Mr v lo hi=false:=by unfold Mr; simp; omega
theorem dM (v lo hi:Int)(w:Zc) :
  YV 147 #[.int .i64 v,.int .i64 lo,.int .i64 hi] w (.bool (Mr v lo hi)):=by
 by_cases h1:lo<=v
 ·have hd:decide (lo<=v)=true:=QQ
  by_cases h2:v<=hi
  ·have H:=Za (Cw h1 h2);exact tQ
  ·have qX:decide (v<=hi)=false:=by simpa using h2
   have H:=Za (OI (v:=v) (lo:=lo) (hi:=hi) (.inr Zf));exact tQ
 ·have hd:decide (lo<=v)=false:=QQ;have H:=Za (OI (v:=v) (lo:=lo) (hi:=hi) (.inl Zf));exact tQ
theorem P9 (v lo hi:Int)(w:Zc) :
  YV 152 #[.int .u64 v,.int .u64 lo,.int .u64 hi] w (.bool (Mr v lo hi)):=by
 by_cases h1:lo<=v
 ·have hd:decide (lo<=v)=true:=QQ
  by_cases h2:v<=hi
  ·have H:=Za (Cw h1 h2);exact tR
  ·have qX:decide (v<=hi)=false:=by simpa using h2
   have H:=Za (OI (v:=v) (lo:=lo) (hi:=hi) (.inr Zf));exact tR
 ·have hd:decide (lo<=v)=false:=QQ;have H:=Za (OI (v:=v) (lo:=lo) (hi:=hi) (.inl Zf));exact tR
theorem PD (v lo hi:Int)(w:Zc) :
  YV 52 #[.int .i64 v,.int .i64 lo,.int .i64 hi] w (.bool (Mr v lo hi)):=by
 by_cases h1:lo<=v
 ·have hd:decide (lo<=v)=true:=QQ
  by_cases h2:v<=hi
  ·have H:=Za (Cw h1 h2);exact tU
  ·have qX:decide (v<=hi)=false:=by simpa using h2
   have H:=Za (OI (v:=v) (lo:=lo) (hi:=hi) (.inr Zf));exact tU
 ·have hd:decide (lo<=v)=false:=QQ;have H:=Za (OI (v:=v) (lo:=lo) (hi:=hi) (.inl Zf));exact tU
theorem ZcT (bp bc:Nat)(c:Nat->Int)(w:Zc)(hp:w.cell? ⟨bp,0,none⟩=some (.pointer (some ⟨bc,0,none⟩)))(hc:Zu w bc 30 (Zi c)) :
  Xb 146 #[.pointer (some ⟨bp,0,none⟩)] w (.bool (Yl c 0)):=by
 have c0:=QS hc 0;clear hc;go_enter func146,ntmps146;exact dW
theorem ZcU (bp bc:Nat)(c:Nat->Int)(w:Zc)(hp:w.cell? ⟨bp,0,none⟩=some (.pointer (some ⟨bc,0,none⟩)))(hc:Zu w bc 30 (Zi c)) :
  Xb 148 #[.pointer (some ⟨bp,0,none⟩)] w (.bool (Yl c 1)):=by
 have c1:=QS hc 1;clear hc;go_enter func148,ntmps148;exact dW
theorem ZcV (bp bc:Nat)(c:Nat->Int)(w:Zc)(hp:w.cell? ⟨bp,0,none⟩=some (.pointer (some ⟨bc,0,none⟩)))(hc:Zu w bc 30 (Zi c)) :
  Xb 149 #[.pointer (some ⟨bp,0,none⟩)] w (.bool (Yl c 2)):=by
 have c2:=QS hc 2;clear hc;go_enter func149,ntmps149;go_wp2;exact dV
theorem ZcW (bp bc:Nat)(c:Nat->Int)(w:Zc)(hp:w.cell? ⟨bp,0,none⟩=some (.pointer (some ⟨bc,0,none⟩)))(hc:Zu w bc 30 (Zi c)) :
  Xb 150 #[.pointer (some ⟨bp,0,none⟩)] w (.bool (Yl c 3)):=by
 have c3:=QS hc 3;have c2:=QS hc 2;clear hc;go_enter func150,ntmps150;exact Za4
theorem ZcX (bp bc:Nat)(c:Nat->Int)(w:Zc)(hp:w.cell? ⟨bp,0,none⟩=some (.pointer (some ⟨bc,0,none⟩)))(hc:Zu w bc 30 (Zi c)) :
  Xb 151 #[.pointer (some ⟨bp,0,none⟩)] w (.bool (Yl c 4)):=by
 have c4:=QS hc 4;have c3:=QS hc 3;clear hc;go_enter func151,ntmps151;exact Zev
theorem ZcY (bp bc:Nat)(c:Nat->Int)(w:Zc)(hp:w.cell? ⟨bp,0,none⟩=some (.pointer (some ⟨bc,0,none⟩)))(hc:Zu w bc 30 (Zi c)) :
  Xb 153 #[.pointer (some ⟨bp,0,none⟩)] w (.bool (Yl c 5)):=by
 have c5:=QS hc 5;have c2:=QS hc 2;clear hc;go_enter func153,ntmps153;exact Zev
theorem ZcZ (bp bc:Nat)(c:Nat->Int)(w:Zc)(hp:w.cell? ⟨bp,0,none⟩=some (.pointer (some ⟨bc,0,none⟩)))(hc:Zu w bc 30 (Zi c)) :
  Xb 154 #[.pointer (some ⟨bp,0,none⟩)] w (.bool (Yl c 6)):=by
 have c6:=QS hc 6;have c3:=QS hc 3;have c4:=QS hc 4;clear hc;go_enter func154,ntmps154;exact Zev
theorem Zc0 (bp bc:Nat)(c:Nat->Int)(w:Zc)(hp:w.cell? ⟨bp,0,none⟩=some (.pointer (some ⟨bc,0,none⟩)))(hc:Zu w bc 30 (Zi c)) :
  Xb 155 #[.pointer (some ⟨bp,0,none⟩)] w (.bool (Yl c 7)):=by
 have c7:=QS hc 7;clear hc;go_enter func155,ntmps155;exact Zin
theorem Zc1 (bp bc:Nat)(c:Nat->Int)(w:Zc)(hp:w.cell? ⟨bp,0,none⟩=some (.pointer (some ⟨bc,0,none⟩)))(hc:Zu w bc 30 (Zi c)) :
  Xb 156 #[.pointer (some ⟨bp,0,none⟩)] w (.bool (Yl c 8)):=by
 have c8:=QS hc 8;clear hc;go_enter func156,ntmps156;go_wp2;exact dV
theorem Zc2 (bp bc:Nat)(c:Nat->Int)(w:Zc)(hp:w.cell? ⟨bp,0,none⟩=some (.pointer (some ⟨bc,0,none⟩)))(hc:Zu w bc 30 (Zi c)) :
  Xb 157 #[.pointer (some ⟨bp,0,none⟩)] w (.bool (Yl c 9)):=by
 have c9:=QS hc 9;clear hc;go_enter func157,ntmps157;go_wp2;exact dV
theorem xn (bp bc:Nat)(c:Nat->Int)(w:Zc)(hp:w.cell? ⟨bp,0,none⟩=some (.pointer (some ⟨bc,0,none⟩)))(hc:Zu w bc 30 (Zi c)) :
  Xb 158 #[.pointer (some ⟨bp,0,none⟩)] w (.bool (Yl c 10)):=by
 have c10:=QS hc 10;clear hc;go_enter func158,ntmps158;exact dW
theorem xo (bp bc:Nat)(c:Nat->Int)(w:Zc)(hp:w.cell? ⟨bp,0,none⟩=some (.pointer (some ⟨bc,0,none⟩)))(hc:Zu w bc 30 (Zi c)) :
  Xb 159 #[.pointer (some ⟨bp,0,none⟩)] w (.bool (Yl c 11)):=by
 have c11:=QS hc 11;have c10:=QS hc 10;clear hc
 by_cases h1:c 10 < c 11
 ·have hd:decide (c 10 < c 11)=true:=QQ;have H:=Za (show Yl c 11=decide (c 11<=1048576) by simp [Yl,h1]);exact Zij
 ·have hd:decide (c 10 < c 11)=false:=QQ;have H:=Za (show Yl c 11=false by simp [Yl,h1]);exact Zij
theorem xp (bp bc:Nat)(c:Nat->Int)(w:Zc)(hp:w.cell? ⟨bp,0,none⟩=some (.pointer (some ⟨bc,0,none⟩)))(hc:Zu w bc 30 (Zi c)) :
  Xb 160 #[.pointer (some ⟨bp,0,none⟩)] w (.bool (Yl c 12)):=by
 have c12:=QS hc 12;clear hc;go_enter func160,ntmps160;exact dW
theorem xq (bp bc:Nat)(c:Nat->Int)(w:Zc)(hp:w.cell? ⟨bp,0,none⟩=some (.pointer (some ⟨bc,0,none⟩)))(hc:Zu w bc 30 (Zi c)) :
  Xb 161 #[.pointer (some ⟨bp,0,none⟩)] w (.bool (Yl c 13)):=by
 have c13:=QS hc 13;clear hc;go_enter func161,ntmps161;exact dW
theorem xr (bp bc:Nat)(c:Nat->Int)(w:Zc)(hp:w.cell? ⟨bp,0,none⟩=some (.pointer (some ⟨bc,0,none⟩)))(hc:Zu w bc 30 (Zi c)) :
  Xb 162 #[.pointer (some ⟨bp,0,none⟩)] w (.bool (Yl c 14)):=by
 have c14:=QS hc 14;clear hc;go_enter func162,ntmps162;exact dW
theorem xu (bp bc:Nat)(c:Nat->Int)(w:Zc)(hp:w.cell? ⟨bp,0,none⟩=some (.pointer (some ⟨bc,0,none⟩)))(hc:Zu w bc 30 (Zi c)) :
  Xb 163 #[.pointer (some ⟨bp,0,none⟩)] w (.bool (Yl c 15)):=by
 have c15:=QS hc 15;clear hc;go_enter func163,ntmps163;exact dW
theorem xw (bp bc:Nat)(c:Nat->Int)(w:Zc)(hp:w.cell? ⟨bp,0,none⟩=some (.pointer (some ⟨bc,0,none⟩)))(hc:Zu w bc 30 (Zi c)) :
  Xb 164 #[.pointer (some ⟨bp,0,none⟩)] w (.bool (Yl c 16)):=by
 have c16:=QS hc 16;have c14:=QS hc 14;have c15:=QS hc 15;clear hc
 by_cases h1:0<=c 16
 ·have hd:decide (0<=c 16)=true:=QQ;have H:=Za (show Yl c 16=decide (c 16 < min (c 14) (c 15)) by simp [Yl,h1,Int.lt_min]);exact Zik
 ·have hd:decide (0<=c 16)=false:=QQ;have H:=Za (show Yl c 16=false by simp [Yl,h1]);exact Zik
theorem xx (bp bc:Nat)(c:Nat->Int)(w:Zc)(hp:w.cell? ⟨bp,0,none⟩=some (.pointer (some ⟨bc,0,none⟩)))(hc:Zu w bc 30 (Zi c)) :
  Xb 165 #[.pointer (some ⟨bp,0,none⟩)] w (.bool (Yl c 17)):=by
 have c17:=QS hc 17;clear hc;go_enter func165,ntmps165;exact dW
theorem xy (bp bc:Nat)(c:Nat->Int)(w:Zc)(hp:w.cell? ⟨bp,0,none⟩=some (.pointer (some ⟨bc,0,none⟩)))(hc:Zu w bc 30 (Zi c)) :
  Xb 166 #[.pointer (some ⟨bp,0,none⟩)] w (.bool (Yl c 18)):=by
 have c18:=QS hc 18;have c19:=QS hc 19;clear hc;go_enter func166,ntmps166;exact Za4
theorem xz (bp bc:Nat)(c:Nat->Int)(w:Zc)(hp:w.cell? ⟨bp,0,none⟩=some (.pointer (some ⟨bc,0,none⟩)))(hc:Zu w bc 30 (Zi c)) :
  Xb 167 #[.pointer (some ⟨bp,0,none⟩)] w (.bool (Yl c 19)):=by
 have c19:=QS hc 19;clear hc;go_enter func167,ntmps167;exact Zin
end
section
open Go.RowKit
theorem ZdP (c:Nat->Int)(w:Zc) :
  Z3 28 #[.agg (Zi c),.int .i64 1] w (.bool (Yl c 0)):=Px
theorem ZdT (c:Nat->Int)(w:Zc) :
  Z3 28 #[.agg (Zi c),.int .i64 5] w (.bool (Yl c 4)):=by
 by_cases h1:c 3<=c 4
 ·have hd:decide (c 3<=c 4)=true:=QQ;have H:=Za (show Yl c 4=decide (c 4<=1152921504606846976) by simp [Yl,Mr,Ia,h1]);exact M5
 ·have hd:decide (c 3<=c 4)=false:=QQ;have H:=Za (show Yl c 4=false by simp [Yl,Mr,h1]);exact M5
theorem ZdX (c:Nat->Int)(w:Zc) :
  Z3 28 #[.agg (Zi c),.int .i64 9] w (.bool (Yl c 8)):=Px
theorem yv (c:Nat->Int)(w:Zc) :
  Z3 28 #[.agg (Zi c),.int .i64 13] w (.bool (Yl c 12)):=Px
theorem yz (c:Nat->Int)(w:Zc) :
  Z3 28 #[.agg (Zi c),.int .i64 17] w (.bool (Yl c 16)):=by
 by_cases h1:0<=c 16
 ·have hd:decide (0<=c 16)=true:=QQ
  by_cases h2:c 16 < c 14
  ·have qX:decide (c 16 < c 14)=true:=by simpa using h2
   have H:=Za (show Yl c 16=decide (c 16 < c 15) by simp [Yl,h1,h2]);exact M5
  ·have qX:decide (c 16 < c 14)=false:=by simpa using h2
   have H:=Za (show Yl c 16=false by simp [Yl,h2]);exact M5
 ·have hd:decide (0<=c 16)=false:=QQ;have H:=Za (show Yl c 16=false by simp [Yl,h1]);exact M5
end
section
open Go.RowKit
theorem ZdQ (c:Nat->Int)(w:Zc) :
  Z3 28 #[.agg (Zi c),.int .i64 2] w (.bool (Yl c 1)):=Px
theorem ZdU (c:Nat->Int)(w:Zc) :
  Z3 28 #[.agg (Zi c),.int .i64 6] w (.bool (Yl c 5)):=by
 by_cases h1:1<=c 5
 ·have hd:decide (1<=c 5)=true:=QQ;have H:=Za (show Yl c 5=decide (c 5<=c 2) by simp [Yl,Mr,h1]);exact M5
 ·have hd:decide (1<=c 5)=false:=QQ;have H:=Za (show Yl c 5=false by simp [Yl,Mr,h1]);exact M5
theorem ZdY (c:Nat->Int)(w:Zc) :
  Z3 28 #[.agg (Zi c),.int .i64 10] w (.bool (Yl c 9)):=Px
theorem yw (c:Nat->Int)(w:Zc) :
  Z3 28 #[.agg (Zi c),.int .i64 14] w (.bool (Yl c 13)):=Px
theorem yA (c:Nat->Int)(w:Zc) :
  Z3 28 #[.agg (Zi c),.int .i64 18] w (.bool (Yl c 17)):=Px
end
section
open Go.RowKit
theorem ZdR (c:Nat->Int)(w:Zc) :
  Z3 28 #[.agg (Zi c),.int .i64 3] w (.bool (Yl c 2)):=Px
theorem ZdV (c:Nat->Int)(w:Zc) :
  Z3 28 #[.agg (Zi c),.int .i64 7] w (.bool (Yl c 6)):=by
 by_cases h1:c 3<=c 6
 ·have hd:decide (c 3<=c 6)=true:=QQ;have H:=Za (show Yl c 6=decide (c 6<=c 4) by simp [Yl,Mr,h1]);exact M5
 ·have hd:decide (c 3<=c 6)=false:=QQ;have H:=Za (show Yl c 6=false by simp [Yl,Mr,h1]);exact M5
theorem yr (c:Nat->Int)(w:Zc) :
  Z3 28 #[.agg (Zi c),.int .i64 11] w (.bool (Yl c 10)):=Px
theorem yx (c:Nat->Int)(w:Zc) :
  Z3 28 #[.agg (Zi c),.int .i64 15] w (.bool (Yl c 14)):=Px
theorem yB (c:Nat->Int)(w:Zc) :
  Z3 28 #[.agg (Zi c),.int .i64 19] w (.bool (Yl c 18)):=Px
end
section
open Go.RowKit
theorem ZdS (c:Nat->Int)(w:Zc) :
  Z3 28 #[.agg (Zi c),.int .i64 4] w (.bool (Yl c 3)):=Px
theorem ZdW (c:Nat->Int)(w:Zc) :
  Z3 28 #[.agg (Zi c),.int .i64 8] w (.bool (Yl c 7)):=by
 by_cases h1:1<=c 7
 ·have hd:decide (1<=c 7)=true:=QQ;have H:=Za (show Yl c 7=decide (c 7<=1152921504606846976) by simp [Yl,Mr,Ia,h1]);exact M5
 ·have hd:decide (1<=c 7)=false:=QQ;have H:=Za (show Yl c 7=false by simp [Yl,Mr,h1]);exact M5
theorem yu (c:Nat->Int)(w:Zc) :
  Z3 28 #[.agg (Zi c),.int .i64 12] w (.bool (Yl c 11)):=by
 by_cases h1:c 10 < c 11
 ·have hd:decide (c 10 < c 11)=true:=QQ;have H:=Za (show Yl c 11=decide (c 11<=1048576) by simp [Yl,h1]);exact M5
 ·have hd:decide (c 10 < c 11)=false:=QQ;have H:=Za (show Yl c 11=false by simp [Yl,h1]);exact M5
theorem yy (c:Nat->Int)(w:Zc) :
  Z3 28 #[.agg (Zi c),.int .i64 16] w (.bool (Yl c 15)):=Px
theorem yC (c:Nat->Int)(w:Zc) :
  Z3 28 #[.agg (Zi c),.int .i64 20] w (.bool (Yl c 19)):=by
 by_cases h1:1<=c 19
 ·have hd:decide (1<=c 19)=true:=QQ;have H:=Za (show Yl c 19=decide (c 19<=4294967296) by simp [Yl,Mr,h1]);exact M5
 ·have hd:decide (1<=c 19)=false:=QQ;have H:=Za (show Yl c 19=false by simp [Yl,Mr,h1]);exact M5
end
section
open Go.RowKit
theorem AP (c:Nat->Int)(k:Nat)(hk:k < 20)(w:Zc) :
  Z3 28 #[.agg (Zi c),.int .i64 ((k:Int)+1)] w (.bool (Yl c k)):=by
 have:k=0\/k=1\/k=2\/k=3\/k=4\/k=5\/k=6\/k=7\/k=8\/k=9\/k=10\/k=11\/k=12\/k=13\/k=14\/k=15\/k=16\/k=17\/k=18\/k=19:=Zf
 rcases this with rfl | rfl | rfl | rfl | rfl | rfl | rfl | rfl | rfl | rfl | rfl | rfl | rfl | rfl | rfl | rfl | rfl | rfl | rfl | rfl
 ·exact ZdP c w
 ·exact ZdQ c w
 ·exact ZdR c w
 ·exact ZdS c w
 ·exact ZdT c w
 ·exact ZdU c w
 ·exact ZdV c w
 ·exact ZdW c w
 ·exact ZdX c w
 ·exact ZdY c w
 ·exact yr c w
 ·exact yu c w
 ·exact yv c w
 ·exact yw c w
 ·exact yx c w
 ·exact yy c w
 ·exact yz c w
 ·exact yA c w
 ·exact yB c w
 ·exact yC c w
end
section
open Go.RowKit
theorem rE:(Tryz.prog.info? 3).map (fun i=>(i.zero,i.size,i.bytes))=some (some (.int .i64 0),1,8):=ZC
def Qf (w:Zc)(S:Nat->Prop)(a:Option Addr)(L:List Int) :Prop:=
 0 < L.length-> ∃b off,a=some ⟨b,off,none⟩/\ ¬S b/\b < w.heap.size/\ ∀j,j < L.length->w.cell? ⟨b,off+j,none⟩=some (.int .i64 (L.getD j 0))
section
variable {w w':Zc} {S T:Nat->Prop} {a:Option Addr} {L:List Int}
theorem Qf.nil (w:Zc)(S:Nat->Prop)(a:Option Addr) :Qf w S a []:=fun h=>by simp at h
theorem Qf.kept (h:Qf w S a L)(k:Zx T w w')(hT: ∀i,i < w.heap.size->T i->S i) :Qf w' S a L:=fun hl=>by
 obtain ⟨b,off,e,hn,hb,hc⟩:=h hl;exact ⟨b,off,e,hn,YE hb k.size,fun j hj=>k.cell (fun ht=>hn (hT _ hb ht)) (hc j hj)⟩
theorem Qf.below (h:Qf w S a L)(hb:Below w.heap.size w w') :Qf w' S a L:=fun hl=>by
 obtain ⟨b,off,e,hn,GN,hc⟩:=h hl;exact ⟨b,off,e,hn,YE GN hb.size,fun j hj=>(hb.cell (p:=⟨b,off+j,none⟩) GN).trans (hc j hj)⟩
theorem Qf.drewN (h:Qf w S a L)(n:Nat) :Qf (w.drewN n) S a L:=h
theorem Qf.of_blk {g:Nat}{t:TypeId}(h:Zu w g t (L.map (ZI .i64)).toArray)(hn: ¬S g) :Qf w S (some ⟨g,0,none⟩) L:=fun hl=>
 ⟨g,0,rfl,hn,h.lt,fun j hj=>by
  rw [ZV,h.cell,Xe,ZH,Zm,Zg hj];rfl⟩
theorem fi (a1 a2:Option Addr)(n c m d:Nat)(w:Zc)(jS:n≠m) :
  Calls Zb 14 #[.slice a1 n c,.slice a2 m d] w fun e w'=>e= .returned (.bool false)/\w'=w:=Any.slices_Equal_int_lens Tryz.lays111 a1 a2 n c m d w jS
theorem l8 {a2:Option Addr}{L2:List Int}{c d n m:Nat}{S2:Nat->Prop}(h1:Qf w S a L)(h2:Qf w S2 a2 L2)(hn:L.length=n)(hm:L2.length=m)(bn:n<=9223372036854775807)(bm:m<=9223372036854775807) :
  Xb 14 #[.slice a n c,.slice a2 m d] w (.bool (decide (L=L2))):=by
 subst hn hm
 by_cases e:L.length=L2.length
 ·by_cases h0:L.length=0
  ·have x1:L=[]:=ZR h0;have x2:L2=[]:=ZR Zf;subst x1 x2;exact (Tryz.slices_Equal_int_empty a a2 c 0 d w Zf).mono fun e w' ⟨he,hw⟩=>⟨by simpa using he,0,hw⟩
  ·obtain ⟨b1,o1,rfl,_,_,c1⟩:=h1 Zf;obtain ⟨b2',o2,rfl,_,_,c2⟩:=h2 Zf;exact (Tryz.slices_Equal_int b1 o1 L.length c b2' o2 L2.length d L L2 w Zf Zf bn bm c1 c2).mono fun e w' ⟨he,hw⟩=>⟨by rw [he,Vc,Vc]; exact VJ (by rw [Bool.eq_iff_iff]; simp),hw⟩
 ·exact (fi a a2 L.length c L2.length d w e).mono fun e' w' ⟨he,hw⟩=>⟨by rw [he]; exact VJ (by symm; simp; rintro rfl; exact e rfl),0,hw⟩
theorem fj {a2:Option Addr}{c d n:Nat}{S2:Nat->Prop}(h1:Qf w S a L)(h2:Qf w S2 a2 L)(hn:L.length=n)(b1:n<=9223372036854775807) :
  Xb 14 #[.slice a n c,.slice a2 n d] w (.bool true):=by
 have:=l8 h1 h2 hn hn b1 b1 (c:=c) (d:=d);exact Bt
theorem Kb {base n:Nat}{v:Zk}(h:w.ownsRow base 3 1 v n (L.map (ZI .i64)))(hS: ∀i,v.ownBlock=some i-> ¬S i) : ∃a cp,v= .slice a n cp/\L.length=n/\n<=cp/\cp<=maxLen/\Qf w S a L:=by
 have hl:=h.1;rw [YG,Nat.mul_one] at hl
 rcases h.2 with ⟨rfl,h2⟩ | ⟨g,cp,cur,rfl,h1,h3,h4,h5,h6,h7⟩
 ·subst h2;obtain rfl:=ZR hl;exact ⟨none,0,rfl,rfl,by omega,by unfold maxLen; omega,Qf.nil _ _ _⟩
 ·refine ⟨_,cp,rfl,hl,h4,h5,fun h0=>⟨g,0,rfl,hS g rfl,(Ym.1 h3).1,fun j hj=>?_⟩⟩;have:=h.cells (g:=g) rfl j (.int .i64 (L.getD j 0)) iW;rwa [add_plain] at this
theorem Bg: ∃i,Tryz.prog.info? 3=some i/\i.zero=some (.int .i64 0)/\i.size=1/\i.bytes=8:=by
 have h:=rE
 cases hi:Tryz.prog.info? 3 with
 | none=>exact Re
 | some i=>
  exact Wn
end
end
section
open Go Go.RowKit
def Mp (w:Zc)(S:Nat->Prop)(a:Option Addr)(L:List Bool) :Prop:=
 0 < L.length-> ∃b off,a=some ⟨b,off,none⟩/\ ¬S b/\b < w.heap.size/\ ∀j,j < L.length->w.cell? ⟨b,off+j,none⟩=some (.bool (L.getD j false))
section
variable {w w':Zc} {S T:Nat->Prop} {a:Option Addr} {L:List Bool}
theorem Mp.kept (h:Mp w S a L)(k:Zx T w w')(hT: ∀i,i < w.heap.size->T i->S i) :Mp w' S a L:=fun hl=>by
 obtain ⟨b,off,e,hn,hb,hc⟩:=h hl;exact ⟨b,off,e,hn,YE hb k.size,fun j hj=>k.cell (fun ht=>hn (hT _ hb ht)) (hc j hj)⟩
theorem Mp.below (h:Mp w S a L)(hb:Below w.heap.size w w') :Mp w' S a L:=fun hl=>by
 obtain ⟨b,off,e,hn,GN,hc⟩:=h hl;exact ⟨b,off,e,hn,YE GN hb.size,fun j hj=>(hb.cell (p:=⟨b,off+j,none⟩) GN).trans (hc j hj)⟩
theorem Mp.of_blk {g:Nat}{t:TypeId}(h:Zu w g t (L.map Value.bool).toArray)(hn: ¬S g) :Mp w S (some ⟨g,0,none⟩) L:=fun hl=>
 ⟨g,0,rfl,hn,h.lt,fun j hj=>by
  rw [ZV,h.cell,Xe,ZH,Zm,Zg hj];rfl⟩
end
theorem EJ {w w':Zc}{S:Nat->Prop}{base n size:Nat}{e:TypeId}{v:Zk}{xs:List Zk}(h:w.ownsRow base e size v n xs)(k:Zx S w w')(hn: ∀g,v.ownBlock=some g-> ¬S g) :w'.ownsRow base e size v n xs:=by
 obtain ⟨h1,h2⟩:=h;refine ⟨h1,?_⟩
 rcases h2 with h2 | ⟨g,cap,cur,rfl,h3,h4,h5⟩
 ·exact .inl h2
 ·exact .inr ⟨g,cap,cur,rfl,h3,Zu.kept (w:=w) h4 k (hn g rfl),h5⟩
theorem r9 {w:Zc}{base n:Nat}{v:Zk}{xs:List Zk}(h:w.ownsRow base 3 1 v n xs) : ∃a cp,v= .slice a n cp:=tN
def W6 (w:Zc)(c s:Nat)(L:List Bool)(v p:Int)(e:Ending)(w':Zc) :Prop:=
 ∃(m:Nat) (a:Option Addr) (cp:Nat),e= .returned (.tuple #[.slice a (Kx L s m).length cp,.int .i64 m])/\Nj L s v p m/\Zl (Qf w' (fun i=>i < w.heap.size) a (Kx L s m))/\Zl (oD w' c (DJ L.length s m))/\Zx (fun i=>i=c) w w'
theorem og (c s:Nat)(a:Option Addr)(cap:Nat)(L:List Bool)(v p:Int)(w:Zc)(hc:oD w c s)(hs:s<=100)(hL:L.length<=100)(hb:Mp w (fun i=>i=c) a L) :
  Calls Zb 248 #[.pointer (some ⟨c,0,none⟩),.slice a L.length cap,.int .i64 v,.int .i64 p] w (W6 w c s L v p):=by
 obtain ⟨i0,hi,BK,By,Nb⟩:=Bg;obtain ⟨n,hn⟩:=ZT (L.length);rw [hn] at hL;rw [hn];have HN:=Za hn;have HC:=Za hc;have HB:=Za hb;have H:=Za (fun w=>cr c n w);have Ec:=hc.lt;clear hn hc hb;go_enter func248,ntmps248;go_wp2;go_step3;go_wp2_with fail;refine (H.o _).mono ?_;rintro e w1 ⟨rfl,rfl⟩;go_wp2_with fail;go_step3;go_wp2;have HP:Zl (Zu ((w.alloc (.cells #[.pointer (some ⟨c,0,none⟩)] 85)).alloc (.cells #[.int .i64 n] 3)) w.heap.size 85 #[.pointer (some ⟨c,0,none⟩)]):=Za ((Zt w _ _).alloc _);have HQ:Zl (Zu ((w.alloc (.cells #[.pointer (some ⟨c,0,none⟩)] 85)).alloc (.cells #[.int .i64 n] 3)) (w.heap.size+1) 3 #[.int .i64 n]):=Za (by have:=Zt (w.alloc (.cells #[.pointer (some ⟨c,0,none⟩)] 85)) 3 #[.int .i64 (n:Int)]; simpa using this);have HK:Zl (Zx (fun i=>i=c) w ((w.alloc (.cells #[.pointer (some ⟨c,0,none⟩)] 85)).alloc (.cells #[.int .i64 n] 3))/\w.heap.size+2<=((w.alloc (.cells #[.pointer (some ⟨c,0,none⟩)] 85)).alloc (.cells #[.int .i64 n] 3)).heap.size):=Za ⟨((Zx.refl _ w).alloc _).alloc _,by simp⟩;have uN:=Za ((HC.o.alloc (.cells #[.pointer (some ⟨c,0,none⟩)] 85)).alloc (.cells #[.int .i64 (n:Int)] 3));clear HC H;generalize hz:w.heap.size=z at*;have HZ:=Za hz;clear hz;go_loopg [10,11] n (fun g s10 s11 wr=> ∃(k q:Nat) (a1:Option Addr) (c1:Nat),k+g=n/\q<=k/\s10= .slice a1 q c1/\s11= .int .i64 k/\Zl ((Kx L s k).length=q/\wr.ownsRow (z+2) 3 1 (.slice a1 q c1) q ((Kx L s k).map (ZI .i64)))/\
  Zl (∀j,j < k->(j:Int)< v/\j < n/\((JM L s j).length:Int)< p)/\Zl (oD wr c (DJ n s k))/\Zl (Zu wr z 85 #[.pointer (some ⟨c,0,none⟩)]/\Zu wr (z+1) 3 #[.int .i64 n])/\Zl (Zx (fun i=>i=c) w wr/\z+2<=wr.heap.size))
 case atStart=>exact ⟨0,0,none,0,by omega,by omega,rfl,rfl,Za ⟨rfl,World.ownsRow_nil _ _ _ _⟩,Za (fun j hj=>by omega),uN,Za ⟨HP.o,HQ.o⟩,HK⟩
 case round=>
  obtain ⟨k,q,a1,c1,hkg,hqk,rfl,rfl,HO,HS,HC,HBL,HKK⟩:=hrel;clear uN HP HQ HK;have Vx: ∀m,m=k->(v<=(k:Int)\/n<=k\/p<=(q:Int))->W6 w c s L v p (.returned (.tuple #[.slice a1 q c1,.int .i64 k])) wr:=by
   rintro m rfl GR;have h1:=HO.o.1;obtain ⟨a2,c2,e,_,_,_,GQ⟩:=Kb (S:=fun i=>i < w.heap.size) HO.o.2 (fun i hi=>by
    have:=HO.o.2.2
    rcases this with ⟨e,_⟩ | ⟨g,cp,cur,e,hb,_⟩
    ·rw [e] at hi; cases hi
    ·rw [e] at hi; injection hi with hi; subst hi; have hb':z+2<=g:=hb; show ¬g < _; rw [HZ.o]; omega)
   injection e with e1 _ e2;subst e1 e2;refine ⟨m,a1,c1,by rw [h1],⟨by rw [HN.o,<-AK,h1]; exact GR,by rw [HN.o]; exact HS.o⟩,Za GQ,Za (by rw [HN.o]; exact HC.o),HKK.o.1⟩
  by_cases h1:v<=(k:Int)
  ·have he:=Za (Vx k rfl (.inl h1));exact ue
  by_cases h2:n<=k
  ·have he:=Za (Vx k rfl (.inr (.inl h2)));exact ue
  by_cases h3:p<=(q:Int)
  ·have he:=Za (Vx k rfl (.inr (.inr h3)));exact ue
  clear Vx;obtain ⟨i,Mu⟩ : ∃i,(s+k)%n=i:=⟨_,rfl⟩;have Fo:i < n:=by rw [<-Mu]; exact Nat.mod_lt _ Zf
  have H1:Zl (Calls Zb 293 #[.pointer (some ⟨z,0,none⟩),.pointer (some ⟨z+1,0,none⟩)] wr fun e w'=>e= .returned (.int .i64 (i:Int))/\Zl (oD w' c (DJ n s (k+1)))/\Zl (Zx (fun i=>i=c) wr w')):=Za (by
   refine (cL z (z+1) c (DJ n s k) n wr HBL.o.1 HBL.o.2 HC.o (ye Zf hs Zf) Zf Zf).mono ?_;rintro e w' ⟨he,h2,h3⟩;rw [sg] at he h2;rw [nx] at h2;exact ⟨by rw [he,Mu],Za h2,Za h3⟩)
  have HI:=Za Mu;clear Mu;obtain ⟨b,off,ha,hbc,NC,UJ⟩:=HB.o IW;subst ha;have hx:=UJ i IW;obtain ⟨r,hr⟩:=ZT (L.getD i false);rw [hr] at hx;have HR:=Za hr;have HX:=Za hx;clear UJ hx hr;have dZ:Zl (∀j,j < k+1->(j:Int)< v/\j < n/\((JM L s j).length:Int)< p):=Za (by
   have:=sZ (L:=L) (s:=s) (v:=v) (p:=p) (m:=k) (by rw [HN.o]; exact HS.o) Zf IW (by rw [<-AK,HO.o.1]; omega);rw [HN.o] at this;exact this)
  go_wp2_with fail;refine H1.o.mono ?_;rintro e w1 ⟨rfl,uN,Nh⟩;have hx1:w1.cell? ⟨b,off+i,none⟩=some (.bool r):=Nh.o.cell hbc (HKK.o.1.cell hbc HX.o);have Wo:Zl (w1.ownsRow (z+2) 3 1 (.slice a1 q c1) q ((Kx L s k).map (ZI .i64))):=Za (EJ HO.o.2 Nh.o (fun g hg e=>by
   have:=(HO.o.2.lt g hg).1;omega))
  have vp:Zl (Zu w1 z 85 #[.pointer (some ⟨c,0,none⟩)]/\Zu w1 (z+1) 3 #[.int .i64 n]):=Za ⟨HBL.o.1.kept Nh.o Zf,HBL.o.2.kept Nh.o Zf⟩;have oT:Zl (Zx (fun i=>i=c) w w1/\z+2<=w1.heap.size):=Za ⟨HKK.o.1.trans Nh.o (fun _ _ h=>h),Nat.le_trans HKK.o.2 Nh.o.size⟩;have HL:=Za HO.o.1;clear HC HBL HKK HO HX Nh H1 HS
  cases r
  ·have HM:Zl ((Kx L s (k+1)).length=q/\Kx L s (k+1)=Kx L s k):=Za (by
    have:=gM (L:=L) (s:=s) (k:=k) (by rw [HN.o,HI.o]; exact HR.o);exact ⟨by rw [this]; exact HL.o,this⟩)
   have Ox:Zl ((Kx L s (k+1)).length=q/\w1.ownsRow (z+2) 3 1 (.slice a1 q c1) q ((Kx L s (k+1)).map (ZI .i64))):=Za ⟨HM.o.1,by rw [HM.o.2]; exact Wo.o⟩;clear Wo HM HR HL;go_wp2;go_roundg (gk - 1)
   case measure=>omega
   case rel=>exact ⟨k+1,q,a1,c1,by omega,by omega,rfl,by go_num,Ox,dZ,uN,vp,oT⟩
  ·have HM:Zl ((Kx L s (k+1)).length=q+1/\Kx L s (k+1)=Kx L s k++[(i:Int)]):=Za (by
    have:=ng (L:=L) (s:=s) (k:=k) (by rw [HN.o,HI.o]; exact HR.o);rw [HN.o,HI.o] at this;exact ⟨by rw [this,List.length_append,HL.o]; rfl,this⟩)
   go_wp2_with (at_builtin; refine wpList_append_own _ rfl _ _ 24 rfl (z+2) 3 i0 (.int .i64 0) 1 8 underlying24 hi BK By Nb rfl YW _ _ _ rfl (Wo.o.alloc _) ⟨w1.heap.size,0,none⟩ 1 1 [.int .i64 (i:Int)] rfl rfl ?c1 ?c2 ?c3 ?c4 ?c5 ?_)
   case c1=>
    intro j u hj
    match j,hj with
    | 0,hj=>simp at hj; subst hj; simp [Addr.add]
   case c2=>intro u hu; simp at hu; subst hu; rfl
   case c3=>unfold maxLen; omega
   case c4=>omega
   case c5=>have:=oT.o.2; simp; omega
   intro v' w2 hown2 FQ _;have hgr:Zu w2 z 85 #[.pointer (some ⟨c,0,none⟩)]/\Zu w2 (z+1) 3 #[.int .i64 n]/\oD w2 c (DJ n s (k+1))/\Zx (fun i=>i=c) w w2/\z+2<=w2.heap.size:=by
    have Ka: ∀i,i < z+2->some i≠(Value.slice a1 q c1).ownBlock:=fun i hi e=>by
     have:=(Wo.o.lt i e.symm).1;omega
    have Bx:=FQ.size;refine ⟨((vp.o.1.alloc _).grown FQ (Ka z Zf)),((vp.o.2.alloc _).grown FQ (Ka (z+1) Zf)),(Zu.grown (Zu.alloc uN.o _) FQ (Ka c Zf)),?_,?_⟩
    ·have k1:Zx (fun i=>z<=i) w1 w2:=((Zx.refl _ w1).alloc _).trans (Zx.of_grown (S:=fun i=>z<=i) FQ (fun i e=>by
      have:=(Wo.o.lt i e.symm).1;omega)) (fun _ _ h=>h)
     exact oT.o.1.trans k1 (fun i h1 h2=>by rw [HZ.o] at h1; omega)
    ·have:=oT.o.2;simp at Bx;omega
   have HBL2:Zl (Zu w2 z 85 #[.pointer (some ⟨c,0,none⟩)]/\Zu w2 (z+1) 3 #[.int .i64 n]):=Za ⟨hgr.1,hgr.2.1⟩;have ll:Zl (oD w2 c (DJ n s (k+1))):=Za hgr.2.2.1;have HKK2:Zl (Zx (fun i=>i=c) w w2/\z+2<=w2.heap.size):=Za hgr.2.2.2;obtain ⟨a2,c2,rfl⟩:=r9 hown2;have Ox:Zl ((Kx L s (k+1)).length=q+1/\w2.ownsRow (z+2) 3 1 (.slice a2 (q+1) c2) (q+1) ((Kx L s (k+1)).map (ZI .i64))):=Za ⟨HM.o.1,by rw [HM.o.2,List.map_append]; exact hown2⟩;clear hgr FQ hown2 Wo HM HR HL vp uN oT hx1;go_wp2;go_roundg (gk - 1)
   case measure=>omega
   case rel=>exact ⟨k+1,q+1,a2,c2,by omega,by omega,rfl,by go_num,Ox,dZ,ll,HBL2,HKK2⟩
end
section
open Go Go.RowKit Go.Lib
def Ot (w:Zc)(S:Nat->Prop)(a:Option Addr)(L:List Int) :Prop:=
 0 < L.length-> ∃b off,a=some ⟨b,off,none⟩/\ ¬S b/\b < w.heap.size/\ ∀j,j < L.length->w.cell? ⟨b,off+j,none⟩=some (.int .u64 (L.getD j 0))
def Mi (L:List Int) :Prop:= ∀j,0<=L.getD j 0/\L.getD j 0<=18446744073709551615
def Ks (L:List Int)(i:Int) :Int:=if 0<=i/\i < (L.length:Int) then L.getD i.toNat 0 else 0
section
variable {w w':Zc} {S T:Nat->Prop} {a:Option Addr} {L:List Int}
theorem Ot.nil (w:Zc)(S:Nat->Prop)(a:Option Addr) :Ot w S a []:=fun h=>by simp at h
theorem Ot.kept (h:Ot w S a L)(k:Zx T w w')(hT: ∀i,i < w.heap.size->T i->S i) :Ot w' S a L:=fun hl=>by
 obtain ⟨b,off,e,hn,hb,hc⟩:=h hl;exact ⟨b,off,e,hn,YE hb k.size,fun j hj=>k.cell (fun ht=>hn (hT _ hb ht)) (hc j hj)⟩
theorem Ot.below (h:Ot w S a L)(hb:Below w.heap.size w w') :Ot w' S a L:=fun hl=>by
 obtain ⟨b,off,e,hn,GN,hc⟩:=h hl;exact ⟨b,off,e,hn,YE GN hb.size,fun j hj=>(hb.cell (p:=⟨b,off+j,none⟩) GN).trans (hc j hj)⟩
theorem Ot.drewN (h:Ot w S a L)(n:Nat) :Ot (w.drewN n) S a L:=h
theorem Ot.of_blk {g:Nat}{t:TypeId}(h:Zu w g t (L.map (ZI .u64)).toArray)(hn: ¬S g) :Ot w S (some ⟨g,0,none⟩) L:=fun hl=>
 ⟨g,0,rfl,hn,h.lt,fun j hj=>by
  rw [ZV,h.cell,Xe,ZH,Zm,Zg hj];rfl⟩
theorem kD {i:Int}(h:i < 0\/(L.length:Int)<=i) :Ks L i=0:=by rw [Ks,if_neg Zf]
theorem Zeb {k:Nat}(h:k < L.length) :Ks L k=L.getD k 0:=by rw [Ks,if_pos Zf]; simp
theorem Od (h:Mi L)(i:Int) :0<=Ks L i/\Ks L i<=18446744073709551615:=by
 unfold Ks
 split
 ·exact h _
 ·exact ⟨by decide,by decide⟩
theorem T8 (cap:Nat)(i:Int)(w:Zc)(h:Ot w S a L)(hl:L.length<=9223372036854775807) :
  YV 251 #[.slice a L.length cap,.int .i64 i] w (.int .u64 (Ks L i)):=by
 by_cases h1:i < 0
 ·have HE:=Za (kD (L:=L) (.inl h1));exact tS
 ·by_cases h2:(L.length:Int)<=i
  ·have HE:=Za (kD (L:=L) (.inr h2));exact tS
  ·obtain ⟨k,rfl,hk⟩ : ∃k:Nat,i=k/\k < L.length:=⟨i.toNat,by omega,by omega⟩;have he:=Zeb hk;obtain ⟨b,off,rfl,_,_,hc⟩:=h Zf;have UJ:=hc k hk;generalize L.getD k 0=x at UJ he;have HE:=Za he;clear hc he;exact tS
end
end
section
open Go Go.RowKit
section
variable {w:Zc} {S:Nat->Prop} {L:List Int} {a:Option Addr} {n:Nat}
theorem Fe {base n:Nat}{v:Zk}(h:w.ownsRow base 23 1 v n (L.map (ZI .u64)))(hS: ∀i,v.ownBlock=some i-> ¬S i) : ∃a cp,v= .slice a n cp/\L.length=n/\n<=cp/\Ot w S a L:=by
 have hl:=h.1;rw [YG,Nat.mul_one] at hl
 rcases h.2 with ⟨rfl,h2⟩ | ⟨g,cp,cur,rfl,h1,h3,h4,h5,h6,h7⟩
 ·subst h2;obtain rfl:=ZR hl;exact ⟨none,0,rfl,rfl,by omega,Ot.nil _ _ _⟩
 ·refine ⟨_,cp,rfl,hl,h4,fun h0=>⟨g,0,rfl,hS g rfl,(Ym.1 h3).1,fun j hj=>?_⟩⟩;have:=h.cells (g:=g) rfl j (.int .u64 (L.getD j 0)) iW;rwa [add_plain] at this
theorem Qf.take (h:Qf w S a L)(hn:n<=L.length) :Qf w S a (L.take n):=fun h0=>by
 have hl:(L.take n).length=n:=Xl;rw [hl] at h0 ⊢;obtain ⟨b,off,e,hs,hb,hc⟩:=h Zf;refine ⟨b,off,e,hs,hb,fun j hj=>?_⟩;rw [hc j Zf];simp [Zm,List.getElem?_take_of_lt hj]
end
end
section
open Go.RowKit
def GY (bp bc:Nat) :Array Zk:= #[.pointer (some ⟨bc,0,none⟩),.pointer none,.func (.func 146) #[] #[.pointer (some ⟨bp,0,none⟩)],.pointer (some ⟨bc,1,none⟩),.pointer none,.func (.func 148) #[] #[.pointer (some ⟨bp,0,none⟩)],.pointer none,.pointer (some ⟨bc,2,none⟩),.func (.func 149) #[] #[.pointer (some ⟨bp,0,none⟩)],.pointer none,.pointer (some ⟨bc,3,none⟩),.func (.func 150) #[] #[.pointer (some ⟨bp,0,none⟩)],.pointer none,.pointer (some ⟨bc,4,none⟩),.func (.func 151) #[] #[.pointer (some ⟨bp,0,none⟩)],.pointer none,.pointer (some ⟨bc,5,none⟩),.func (.func 153) #[] #[.pointer (some ⟨bp,0,none⟩)],.pointer none,.pointer (some ⟨bc,6,none⟩),.func (.func 154) #[] #[.pointer (some ⟨bp,0,none⟩)],.pointer none,.pointer (some ⟨bc,7,none⟩),.func (.func 155) #[] #[.pointer (some ⟨bp,0,none⟩)],.pointer none,.pointer (some ⟨bc,8,none⟩),.func (.func 156) #[] #[.pointer (some ⟨bp,0,none⟩)],.pointer none,.pointer (some ⟨bc,9,none⟩),.func (.func 157) #[] #[.pointer (some ⟨bp,0,none⟩)],.pointer (some ⟨bc,10,none⟩),.pointer none,.func (.func 158) #[] #[.pointer (some ⟨bp,0,none⟩)],.pointer (some ⟨bc,11,none⟩),.pointer none,.func (.func 159) #[] #[.pointer (some ⟨bp,0,none⟩)],.pointer (some ⟨bc,12,none⟩),.pointer none,.func (.func 160) #[] #[.pointer (some ⟨bp,0,none⟩)],.pointer (some ⟨bc,13,none⟩),.pointer none,.func (.func 161) #[] #[.pointer (some ⟨bp,0,none⟩)],.pointer (some ⟨bc,14,none⟩),.pointer none,.func (.func 162) #[] #[.pointer (some ⟨bp,0,none⟩)],.pointer (some ⟨bc,15,none⟩),.pointer none,.func (.func 163) #[] #[.pointer (some ⟨bp,0,none⟩)],.pointer (some ⟨bc,16,none⟩),.pointer none,.func (.func 164) #[] #[.pointer (some ⟨bp,0,none⟩)],.pointer (some ⟨bc,17,none⟩),.pointer none,.func (.func 165) #[] #[.pointer (some ⟨bp,0,none⟩)],.pointer none,.pointer (some ⟨bc,18,none⟩),.func (.func 166) #[] #[.pointer (some ⟨bp,0,none⟩)],.pointer none,.pointer (some ⟨bc,19,none⟩),.func (.func 167) #[] #[.pointer (some ⟨bp,0,none⟩)]]
theorem qg (bp bc:Nat) :(GY bp bc).all (·.oneCell')=true:=ZC
theorem ry:(Tryz.prog.info? 178).map (·.size)=some 60:=ZC
theorem a8 (bc:Nat)(w:Zc) :
  Calls Zb 119 #[.pointer (some ⟨bc,0,none⟩)] w fun e w'=>e= .returned (.agg (GY w.heap.size bc))/\Zu w' w.heap.size 180 #[.pointer (some ⟨bc,0,none⟩)]/\Below w.heap.size w w':=by
 go_enter func119,ntmps119;go_wp2;refine Wj 101 3 ZC rfl ZC rfl ?_;intro ops W hW;have hp:W.cell? ⟨w.heap.size,0,none⟩=some (.pointer (some ⟨bc,0,none⟩)):=by
  rw [hW]; exact ((Zt w 180 #[.pointer (some ⟨bc,0,none⟩)]).alloc _).cell 0
 have DO:=Za (show Zu W w.heap.size 180 #[.pointer (some ⟨bc,0,none⟩)] by rw [hW]; exact (Zt w 180 #[.pointer (some ⟨bc,0,none⟩)]).alloc _);have Gv:=Za (show ∃old:Array Zk,old.size=60/\Zu W (w.heap.size+1) 178 old by
  rw [hW];exact ⟨_,rfl,heap_alloc2_new w _ _⟩)
 have HB:=Za (show Below w.heap.size w W by rw [hW]; exact (((Below.refl _ _).alloc (Nat.le_refl _) _).alloc ZE _).drew);clear hW;iterate 101 still_step
 refine wpStill_nil ?_;obtain ⟨old,hs,GN⟩:=Gv.o;refine wpList_store_row rfl _ _ _ rfl (w.heap.size+1) (GY w.heap.size bc) rfl rfl 178 old GN ry (by rw [hs]; rfl) (qg _ _) ?_;have HS:=Za hs;have H2:=Za GN;clear hs GN;go_wp2;refine bodyPost_ret (v:= .agg (GY w.heap.size bc)) (results_cell_row (fn:=Tryz.f119) rfl _ _ (w.heap.size+1) 178 (GY w.heap.size bc) (0,0) _ rfl (setRow_heap W _ old _ 178 (0,0) H2.o) underlying178 rfl ry) rfl ⟨rfl,?_,below_setRow HB.o Zf _⟩;exact (setRow_other W _ _ _ Zf).trans DO.o
end
end Go.Proofs.YtobgbcdgffgdhaaGreat
