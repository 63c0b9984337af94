/- Part 21 of 58: L06Book L13Met L13MetOps L06Ops L06Ref. -/
import Derived.Test.YtianiiijaopdpaaGreatZu00
import Derived.Test.YtianiiijaopdpaaGreatZu13
import Derived.Test.YtianiiijaopdpaaGreatZu15
namespace Go.Proofs.YtianiiijaopdpaaGreat
set_option linter.unusedVariables false
set_option linter.unusedSimpArgs false
set_option maxRecDepth 100000
set_option maxHeartbeats 8000000
open _root_.Go.Act renaming put → YL
open _root_.Go.RowKit renaming Below → Zt
open _root_.Go.RowKit.Below renaming refl → Zr
open _root_.Go.Proofs.YtianiiijaopdpaaGreat.Zy renaming alloc → YF, cell → Yh, drew → J3, drewN → Xz, frozen → Ku, new → Zw, set_ → Vi
open _root_.Go renaming Calls → Zi, Value → Zo, World → Zc, heap_alloc_new → ZD, wpList_store_row → Zm, wpQuiet → ZB, wpQuiet_nil → Zj
open _root_.Go.Calls renaming quiet_of → Qv
open _root_.Go.IntKind renaming wrap_u64 → JS
open _root_.Go.Lib renaming hid → Za
open _root_.Nat renaming le_refl → Zg
open _root_.Go.NoPanic renaming normal → ZH
open _root_.Go.Region renaming seqB → YH
open _root_.Go.Proofs.Tryz renaming prog → Zb, underlying143 → QX, underlying180 → GF
open _root_.Go.World renaming setRow_alloc_new → Zu
theorem Zgw {G:Prop} (h:G:=by
  intro j v hv;have hj:j < 3:=(List.getElem?_eq_some_iff.1 hv).1;rw [Nat.zero_add,Zy.cell h j];obtain rfl | rfl | rfl:j=0∨j=1∨j=2:=by omega
  all_goals exact hv) :G:=h
theorem ZgQ {G:Prop} (h:G:=by
  go_wp2_with fail;refine H.out.mono ?_;rintro e w1 ⟨rfl,hb⟩;have HB:=Lib.hid hb;clear hb;go_wp2_with fail;go_ret;exact ⟨rfl,HB.out⟩) :G:=h
theorem Zg6 {G:Prop} (h:G:=by
  go_wp2_with fail;refine H.out.mono ?_;rintro e w1 ⟨rfl,m,rfl⟩;go_wp2_with fail;go_ret;exact ⟨rfl,HE.out m⟩) :G:=h
theorem Zac {G:Prop} (h:G:=by
  go_wp2_with fail;refine H.out.mono ?_;rintro e w' ⟨rfl,m,rfl⟩;go_wp2_with fail;go_ret;exact ⟨rfl,_,rfl⟩) :G:=h
section
open Go.RowKit
theorem pL (y x:Int)(i:Nat)(hy0:0≤y)(hy1:y≤18446744073709551615)(bC:0≤x)(jr:x≤18446744073709551615) :0≤ [y,x].getD i 0∧[y,x].getD i 0≤18446744073709551615:=by
 match i with
 | 0=>exact ⟨hy0,hy1⟩
 | 1=>exact ⟨bC,jr⟩
 | i+2=>simp
theorem ae (g:Nat)(y x:Int)(w:Zc)(h:Zy w g 22 #[.int .u64 y,.int .u64 x])(hy0:0≤y)(hy1:y≤18446744073709551615)(bC:0≤x)(jr:x≤18446744073709551615) :
  Zi Zb 23 #[.slice (some ⟨g,0,none⟩) 2 2] w fun e w'=>e= .returned (.tuple #[.int .u64 (EG [y,x] 2),.bool (G9 [y,x] 2)])∧w=w':=
 Fk g 0 2 2 [y,x] w Zp (fun i hi=>by
  rw [Nat.zero_add,Yh h i];obtain rfl | rfl:i=0∨i=1:=by omega
  all_goals rfl) (fun i=>pL y x i hy0 hy1 bC jr)
theorem jQ {y x:Int}(h:y+x≤18446744073709551615) :G9 [y,x] 2=true∧EG [y,x] 2=y+x:=by
 have e:XT [y,x] 2=y+x:=by simp [XT]
 have:=Fl (z:= [y,x]) (n:=2) (by rw [e]; exact h);rwa [e] at this
theorem jP {y x:Int}(h: ¬y+x≤18446744073709551615) :G9 [y,x] 2=false∧EG [y,x] 2=0:=by
 have e:XT [y,x] 2=y+x:=by simp [XT]
 exact Nd (z:= [y,x]) (n:=2) (by rw [e]; exact h)
theorem RL (g:Nat)(y x:Int)(w:Zc)(h:Zy w g 22 #[.int .u64 y,.int .u64 x])(hy0:0≤y)(bC:0≤x)(hs:y+x≤18446744073709551615) :
  Zi Zb 23 #[.slice (some ⟨g,0,none⟩) 2 2] w fun e w'=>e= .returned (.tuple #[.int .u64 (y+x),.bool true])∧w=w':=by
 have:=ae g y x w h hy0 Zp bC Zp;rwa [(jQ hs).1,(jQ hs).2] at this
theorem RK (g:Nat)(y x:Int)(w:Zc)(h:Zy w g 22 #[.int .u64 y,.int .u64 x])(hy0:0≤y)(hy1:y≤18446744073709551615)(bC:0≤x)(jr:x≤18446744073709551615)(hs: ¬y+x≤18446744073709551615) :
  Zi Zb 23 #[.slice (some ⟨g,0,none⟩) 2 2] w fun e w'=>e= .returned (.tuple #[.int .u64 0,.bool false])∧w=w':=by
 have:=ae g y x w h hy0 hy1 bC jr;rwa [(jP hs).1,(jP hs).2] at this
theorem qN:(Tryz.prog.info? 305).map (·.size)=some 2:=by kernel_rfl
theorem DK:(Tryz.prog.info? 22).map (fun i=>(i.zero,i.size))=some (some (.int .u64 0),1):=by kernel_rfl
theorem AS (s b:Nat)(hs:s < 3)(w:Zc) :Zi Zb 275 #[.pointer (some ⟨b,0,none⟩),.int .i64 s] w fun e w'=>e= .returned (.pointer (some ⟨b,s,none⟩))∧w=w':=by
 obtain rfl | rfl | rfl:s=0∨s=1∨s=2:=by omega
 ·exact yp b w
 ·exact yq b w
 ·exact yr b w
theorem Aq {w:Zc}{b:Nat}{D P B C:Int}(h:KC w b D P B C) :w.rangeAt b 0 [.int .u64 D,.int .u64 P,.int .u64 B]:=by
 exact Zgw
theorem CS {w:Zc}{b:Nat}{D P B C D' P' B':Int}(h:KC w b D P B C) :KC (w.setCells b 0 [.int .u64 D',.int .u64 P',.int .u64 B']) b D' P' B' C:=
 Vi (Vi (Vi h 0 (.int .u64 D')) 1 (.int .u64 P')) 2 (.int .u64 B')
theorem Wz {a w:Zc}{b:Nat}(h:a.grownBy w (some b))(u0 u1 u2:Zo) :a.grownBy (w.setCells b 0 [u0,u1,u2]) (some b):=
 QK (QK (QK h (.inl rfl) u0) (.inl rfl) u1) (.inl rfl) u2
theorem az (s b g:Nat)(D P B C D' P' B' x y:Int)(w:Zc)(hb:KC w b D P B C)(hg:Zy w g 305 #[.int .i64 s,.int .u64 x])(hs:s < 3)
  (hy:(#[.int .u64 D,.int .u64 P,.int .u64 B] :Array Zo)[s]?=some (.int .u64 y)) (hup:(#[.int .u64 D,.int .u64 P,.int .u64 B] :Array Zo).setIfInBounds s (.int .u64 (y+x))= #[.int .u64 D',.int .u64 P',.int .u64 B'])
  (y0:0≤y) (x0:0≤x) (EU:y+x≤18446744073709551615) :
  Zi Zb 235 #[.pointer (some ⟨b,0,none⟩),.slice (some ⟨g,0,none⟩) 1 1] w fun e w'=>e= .returned (.bool true)∧KC w' b D' P' B' C∧w.grownBy w' (some b):=by
 have HR:=Za (Aq hb);have HB:=Za hb;have HG:=Za hg;have HY:=Za hy;have HU:=Za hup;have HT:=Za (fun b w=>AS s b hs w);have HL:=Za (Zy.lt hb);have HLg:=Za (Zy.lt hg);have HN:Hid (∀(w:Zc),Zy (w.alloc (.cells #[.int .u64 D,.int .u64 P,.int .u64 B] 180)) w.heap.size 180 #[.int .u64 D,.int .u64 P,.int .u64 B]):=Za (fun w=>Zw w _ _);clear hb hg hy hup;go_enter Tryz.func235,Tryz.ntmps235;go_wp2_with (first | (refine wpList_load_mid rfl 180 _ rfl b 0 rfl _ _ HR.out GF rfl An ?_) | (refine Zm rfl _ _ _ rfl w.heap.size #[.int .u64 D,.int .u64 P,.int .u64 B] rfl rfl 180 _ (ZD w _) An rfl rfl ?_; rw [Zu]));go_loopw [16] (fun s16 wr=> ∃(k:Nat) (cs:Array Zo),s16= .int .i64 k∧Hid (k=0∧cs= #[.int .u64 D,.int .u64 P,.int .u64 B]∨k=1∧cs= #[.int .u64 D',.int .u64 P',.int .u64 B'])∧Hid (Zy wr w.heap.size 180 cs)∧Zt w.heap.size w wr) (fun s16 _=>1 -(intOf s16).toNat)
 case atStart=>exact ⟨0,_,rfl,Za (.inl ⟨rfl,rfl⟩),Za (Zw w _ _),(Zr _ _).alloc (Zg _) _⟩
 case round=>
  obtain ⟨k,cs,rfl,HK,HC,BR⟩:=hrel;have hk:k=0∨k=1:=HK.out.elim (fun h=> .inl h.1) (fun h=> .inr h.1)
  rcases hk with rfl | rfl
  ·have Ff:cs= #[.int .u64 D,.int .u64 P,.int .u64 B]:=HK.out.elim (fun h=>h.2) (fun h=>by cases h.1);subst Ff;clear HK;have g0:wr.cell? ⟨g,0,none⟩=some (.int .i64 s):=(BR.cell (p:=⟨g,0,none⟩) HLg.out).trans (HG.out.cell 0);have g1:wr.cell? ⟨g,1,none⟩=some (.int .u64 x):=(BR.cell (p:=⟨g,1,none⟩) HLg.out).trans (HG.out.cell 1);go_wp2_with (first | (refine Zm rfl _ _ _ rfl wr.heap.size #[.int .i64 s,.int .u64 x] rfl rfl 305 _ (ZD wr _) qN rfl rfl ?_; rw [Zu]) | fail);refine (HT.out _ _).mono ?_;rintro e w1 ⟨rfl,PQ⟩;have B1:Zt w.heap.size w w1:=PQ▸BR.alloc BR.size _;have C1:Hid (Zy w1 w.heap.size 180 #[.int .u64 D,.int .u64 P,.int .u64 B]):=Za (PQ▸YF HC.out _);have x1:w1.cell? ⟨wr.heap.size,1,none⟩=some (.int .u64 x):=by rw [←PQ]; exact Yh (Zw _ _ _) 1
   have y1:w1.cell? ⟨w.heap.size,s,none⟩=some (.int .u64 y):=(C1.out.cell s).trans HY.out;clear PQ g0 g1 HC BR;go_wp2;refine MZ (fun _=>True) 11 11 [] trivial ?_;refine Zj ?_;refine KX (fun w'=>w'.cell? ⟨wr.heap.size,1,none⟩=some (.int .u64 x)∧w'.cell? ⟨w.heap.size,s,none⟩=some (.int .u64 y)) (m:=11) (f:=6) [0,1,2,3,4] (fun _ _=>trivial) Yi ⟨x1,y1⟩ ?_;simp only [qF,qH];show ZB _ _ _ _ [_,_,_,_,_] _;iterate 2 (go_big_quiet_step ((intros; rfl)))
   refine Yw 22 _ _ (.int .u64 y) rfl rfl rfl (fun w h=>by simp [go_sem,h]) (fun w h=>h.2) ?_;simp only [qB];iterate 1 (go_big_quiet_step ((intros; rfl)))
   refine Yw 22 _ _ (.int .u64 x) rfl rfl rfl (fun w h=>by simp [go_sem,h]) (fun w h=>h.1) ?_;simp only [qB];refine Zj ?_;refine Qt (i:=5) ?_;refine YE rfl rfl (QN 143 22 (.tmp 26) (.tmp 28) _ _ (.int .u64 y) (.int .u64 x) rfl rfl rfl QX DK rfl rfl rfl ⟨⟨ZK _ x1,ZK _ y1⟩,?_⟩);refine Qt (i:=6) ?_;simp only [YL,qG,qS];refine JM #[.slice (some ⟨w1.drew.heap.size,0,none⟩) 2 2] Tryz.call23 ((RL w1.drew.heap.size y x _ (Zw w1.drew _ _) y0 x0 EU).mono ?_);rintro e w2 ⟨rfl,MG⟩;have B2:Zt w.heap.size w w2:=MG▸B1.drew.alloc B1.size _;have C2:Hid (Zy w2 w.heap.size 180 #[.int .u64 D,.int .u64 P,.int .u64 B]):=Za (MG▸YF (J3 C1.out) _);have y2:w2.cell? ⟨w.heap.size,s,none⟩=some (.int .u64 y):=(C2.out.cell s).trans HY.out;have x2:w2.cell? ⟨wr.heap.size,1,none⟩=some (.int .u64 x):=by rw [←MG]; exact ZK _ x1
   have z2:w2.frozen? ⟨w.heap.size,s,none⟩=false:=C2.out.frozen s;have C3:Hid (Zy (w2.setCell ⟨w.heap.size,s,none⟩ (.int .u64 (y+x))) w.heap.size 180 #[.int .u64 D',.int .u64 P',.int .u64 B']):=Za (by have:=C2.out.set_ s (.int .u64 (y+x)); rwa [HU.out] at this);have B3:Hid (Zt w.heap.size w (w2.setCell ⟨w.heap.size,s,none⟩ (.int .u64 (y+x)))):=Za (B2.setCell (Zg _) _);refine ⟨_,rfl,⟨x2,y2⟩,?_⟩;clear MG C1 B1 x1 y1;simp only [YL,qG,qS];refine Wv (fun w'=>w'.cell? ⟨wr.heap.size,1,none⟩=some (.int .u64 x)∧w'.cell? ⟨w.heap.size,s,none⟩=some (.int .u64 y)) (m:=4) (f:=0) [7,8,9,10] ⟨x2,y2⟩ ?_;simp only [qF,qH];show ZB _ _ _ _ [_,_,_,_] _;iterate 4 (go_big_quiet_step ((intros; rfl)))
   refine Zj ?_;show YH _ _ _ _ _=true∧_;refine ⟨by kernel_rfl,?_⟩;simp only [qA];go_wp2;refine ZH ?_;go_wp2;go_roundw
   case rel=>exact ⟨1,_,rfl,Za (.inr ⟨rfl,rfl⟩),C3,B3.out⟩
   case measure=>simp [intOf]
  ·have Ff:cs= #[.int .u64 D',.int .u64 P',.int .u64 B']:=HK.out.elim (fun h=>by cases h.1) (fun h=>h.2);subst Ff;clear HK;have hb:KC wr b D P B C:=Zy.below HB.out BR HL.out;have HE:Hid (KC (((wr.setCell ⟨b,0,none⟩ (.int .u64 D')).setCell ⟨b,1,none⟩ (.int .u64 P')).setCell ⟨b,2,none⟩ (.int .u64 B')) b D' P' B' C∧w.grownBy (((wr.setCell ⟨b,0,none⟩ (.int .u64 D')).setCell ⟨b,1,none⟩ (.int .u64 P')).setCell ⟨b,2,none⟩ (.int .u64 B')) (some b)):=Za ⟨CS hb,Wz (Eo BR _) _ _ _⟩;obtain ⟨c0,c1,c2,c3⟩:=hb.cells;have z0:=Ku hb 0;have z1:=Ku hb 1;have z2:=Ku hb 2;clear hb;go_wp2_with (refine wpList_load_row rfl 180 _ rfl w.heap.size rfl _ _ (0,0) _ HC.out GF rfl An ?_);go_ret;exact ⟨rfl,HE.out⟩
theorem vk (s b g:Nat)(D P B C x y:Int)(w:Zc)(hb:KC w b D P B C)(hg:Zy w g 305 #[.int .i64 s,.int .u64 x])(hs:s < 3)
  (hy:(#[.int .u64 D,.int .u64 P,.int .u64 B] :Array Zo)[s]?=some (.int .u64 y))
  (y0:0≤y) (ym:y≤18446744073709551615) (x0:0≤x) (x1':x≤18446744073709551615) (EU: ¬y+x≤18446744073709551615) :
  Zi Zb 235 #[.pointer (some ⟨b,0,none⟩),.slice (some ⟨g,0,none⟩) 1 1] w fun e w'=>e= .returned (.bool false)∧Zt w.heap.size w w':=by
 have HR:=Za (Aq hb);have HB:=Za hb;have HG:=Za hg;have HY:=Za hy;have HT:=Za (fun b w=>AS s b hs w);have HL:=Za (Zy.lt hb);have HLg:=Za (Zy.lt hg);have HN:Hid (∀(w:Zc),Zy (w.alloc (.cells #[.int .u64 D,.int .u64 P,.int .u64 B] 180)) w.heap.size 180 #[.int .u64 D,.int .u64 P,.int .u64 B]):=Za (fun w=>Zw w _ _);clear hb hg hy;go_enter Tryz.func235,Tryz.ntmps235;go_wp2_with (first | (refine wpList_load_mid rfl 180 _ rfl b 0 rfl _ _ HR.out GF rfl An ?_) | (refine Zm rfl _ _ _ rfl w.heap.size #[.int .u64 D,.int .u64 P,.int .u64 B] rfl rfl 180 _ (ZD w _) An rfl rfl ?_; rw [Zu]));go_loopw [16] (fun s16 wr=> ∃(k:Nat) (cs:Array Zo),s16= .int .i64 k∧Hid (k=0∧cs= #[.int .u64 D,.int .u64 P,.int .u64 B])∧Hid (Zy wr w.heap.size 180 cs)∧Zt w.heap.size w wr) (fun s16 _=>1 -(intOf s16).toNat)
 case atStart=>exact ⟨0,_,rfl,Za ⟨rfl,rfl⟩,Za (Zw w _ _),(Zr _ _).alloc (Zg _) _⟩
 case round=>
  obtain ⟨k,cs,rfl,HK,HC,BR⟩:=hrel;obtain ⟨rfl,rfl⟩:=HK.out
  ·clear HK;have g0:wr.cell? ⟨g,0,none⟩=some (.int .i64 s):=(BR.cell (p:=⟨g,0,none⟩) HLg.out).trans (HG.out.cell 0);have g1:wr.cell? ⟨g,1,none⟩=some (.int .u64 x):=(BR.cell (p:=⟨g,1,none⟩) HLg.out).trans (HG.out.cell 1);go_wp2_with (first | (refine Zm rfl _ _ _ rfl wr.heap.size #[.int .i64 s,.int .u64 x] rfl rfl 305 _ (ZD wr _) qN rfl rfl ?_; rw [Zu]) | fail);refine (HT.out _ _).mono ?_;rintro e w1 ⟨rfl,PQ⟩;have B1:Zt w.heap.size w w1:=PQ▸BR.alloc BR.size _;have C1:Hid (Zy w1 w.heap.size 180 #[.int .u64 D,.int .u64 P,.int .u64 B]):=Za (PQ▸YF HC.out _);have x1:w1.cell? ⟨wr.heap.size,1,none⟩=some (.int .u64 x):=by rw [←PQ]; exact Yh (Zw _ _ _) 1
   have y1:w1.cell? ⟨w.heap.size,s,none⟩=some (.int .u64 y):=(C1.out.cell s).trans HY.out;clear PQ g0 g1 HC BR;go_wp2;refine MZ (fun _=>True) 11 11 [] trivial ?_;refine Zj ?_;refine KX (fun w'=>w'.cell? ⟨wr.heap.size,1,none⟩=some (.int .u64 x)∧w'.cell? ⟨w.heap.size,s,none⟩=some (.int .u64 y)) (m:=11) (f:=6) [0,1,2,3,4] (fun _ _=>trivial) Yi ⟨x1,y1⟩ ?_;simp only [qF,qH];show ZB _ _ _ _ [_,_,_,_,_] _;iterate 2 (go_big_quiet_step ((intros; rfl)))
   refine Yw 22 _ _ (.int .u64 y) rfl rfl rfl (fun w h=>by simp [go_sem,h]) (fun w h=>h.2) ?_;simp only [qB];iterate 1 (go_big_quiet_step ((intros; rfl)))
   refine Yw 22 _ _ (.int .u64 x) rfl rfl rfl (fun w h=>by simp [go_sem,h]) (fun w h=>h.1) ?_;simp only [qB];refine Zj ?_;refine Qt (i:=5) ?_;refine YE rfl rfl (QN 143 22 (.tmp 26) (.tmp 28) _ _ (.int .u64 y) (.int .u64 x) rfl rfl rfl QX DK rfl rfl rfl ⟨⟨ZK _ x1,ZK _ y1⟩,?_⟩);refine Qt (i:=6) ?_;simp only [YL,qG,qS];refine JM #[.slice (some ⟨w1.drew.heap.size,0,none⟩) 2 2] Tryz.call23 ((RK w1.drew.heap.size y x _ (Zw w1.drew _ _) y0 ym x0 x1' Zp).mono ?_);rintro e w2 ⟨rfl,MG⟩;have B2:Zt w.heap.size w w2:=MG▸B1.drew.alloc B1.size _;have C2:Hid (Zy w2 w.heap.size 180 #[.int .u64 D,.int .u64 P,.int .u64 B]):=Za (MG▸YF (J3 C1.out) _);have y2:w2.cell? ⟨w.heap.size,s,none⟩=some (.int .u64 y):=(C2.out.cell s).trans HY.out;have x2:w2.cell? ⟨wr.heap.size,1,none⟩=some (.int .u64 x):=by rw [←MG]; exact ZK _ x1
   refine ⟨_,rfl,⟨x2,y2⟩,?_⟩;clear MG C1 B1 x1 y1;simp only [YL,qG,qS];refine Wv (fun w'=>w'.cell? ⟨wr.heap.size,1,none⟩=some (.int .u64 x)∧w'.cell? ⟨w.heap.size,s,none⟩=some (.int .u64 y)) (m:=4) (f:=0) [7,8,9,10] ⟨x2,y2⟩ ?_;simp only [qF,qH];show ZB _ _ _ _ [_,_,_,_] _;iterate 4 (go_big_quiet_step ((intros; rfl)))
   refine Zj ?_;show YH _ _ _ _ _=true∧_;refine ⟨by kernel_rfl,?_⟩;simp only [qA];go_wp2;refine ZH ?_;go_wp2;go_ret;exact ⟨rfl,B2⟩
end
section
open Go.RowKit
def Oz (B T D:Int) :Int:=(B+T+D)%18446744073709551616
def oG (T S:Int) :Int:=(T - S)%18446744073709551616
def KR (w:Zc)(b:Nat)(B S T D:Int) :Prop:=Zy w b 202 #[.int .u64 (Oz B T D),.int .u64 T,.int .u64 D,.int .u64 (oG T S)]
def Jm (B S T D:Int) :Prop:=0≤B∧0≤S∧B+S≤18446744073709551615∧0≤T∧T≤18446744073709551615∧0≤D∧D≤18446744073709551615
section
variable {w w':Zc} {b d:Nat} {B S T D x:Int}
theorem KR.cells (h:KR w b B S T D) :w.cell? ⟨b,0,none⟩=some (.int .u64 (Oz B T D))∧w.cell? ⟨b,1,none⟩=some (.int .u64 T)∧w.cell? ⟨b,2,none⟩=some (.int .u64 D)∧w.cell? ⟨b,3,none⟩=some (.int .u64 (oG T S)):=
 ⟨Yh h 0,Yh h 1,Yh h 2,Yh h 3⟩
theorem xC (hF:Jm B S T D) : ∃A,IntKind.u64.wrap (Oz B T D - T)=A∧IntKind.u64.wrap (A - D)=B:=by
 refine ⟨_,rfl,?_⟩;obtain ⟨f0,f1,f2,f3,f4,f5,f6⟩:=hF;simp only [JS,Oz];omega
theorem yi (hF:Jm B S T D)(x0:0≤x)(hx:x≤B) : ∃T',IntKind.u64.wrap (T+x)=T'∧Jm (B - x) (S+x) T' D∧Oz (B - x) T' D=Oz B T D∧oG T' (S+x)=oG T S:=by
 refine ⟨_,rfl,?_⟩;obtain ⟨f0,f1,f2,f3,f4,f5,f6⟩:=hF;simp only [JS,oG,Oz,Jm];omega
theorem vt (hF:Jm B S T D) : ∃D',IntKind.u64.wrap (D+B)=D'∧Jm 0 S T D'∧Oz 0 T D'=Oz B T D:=by
 refine ⟨_,rfl,?_⟩;obtain ⟨f0,f1,f2,f3,f4,f5,f6⟩:=hF;simp only [JS,Oz,Jm];omega
theorem pN (hF:Jm B S T D)(x0:0≤x) : ∃p,(if 18446744073709551615 - B < x then 18446744073709551615 - B else x)=p∧IntKind.u64.wrap (Oz B T D+p)=Oz (B+p) T D∧Jm (B+p) 0 T D∧oG T 0=T∧0≤p:=by
 refine ⟨_,rfl,?_⟩;obtain ⟨f0,f1,f2,f3,f4,f5,f6⟩:=hF;simp only [JS,Oz,oG,Jm]
 split <;> omega
theorem KR.range (h:KR w b B S T D) :w.rangeAt b 0 [.int .u64 (Oz B T D),.int .u64 T,.int .u64 D]:=by
 exact Zgw
end
theorem EY (b:Nat)(B S T D:Int)(w:Zc)(h:KR w b B S T D)(hF:Jm B S T D) :
  Zi Zb 114 #[.pointer (some ⟨b,0,none⟩)] w fun e w'=>e= .returned (.int .u64 B)∧ ∃m,w'=w.drewN m:=by
 obtain ⟨c0,c1,c2,c3⟩:=h.cells;obtain ⟨A,eA,eB⟩:=xC hF;clear h hF c3;generalize Oz B T D=G at*;go_enter Tryz.func114,Tryz.ntmps114;go_wp2;go_quiet (skip);exact dy
theorem RT (b:Nat)(B S T D:Int)(w:Zc)(h:KR w b B S T D)(hF:Jm B S T D) :
  Zi Zb 62 #[.pointer (some ⟨b,0,none⟩)] w fun e w'=>e= .returned (.int .u64 B)∧ ∃m,w'=w.drewN m:=by
 have H:=Za (EY b B S T D w h hF);clear h hF;go_enter Tryz.func62,Tryz.ntmps62;exact Zac
theorem fI (w:Zc) :
  Zi Zb 77 #[] w fun e w'=>e= .returned (.pointer (some ⟨w.heap.size,0,none⟩))∧w.alloc (.cells #[.int .u64 0,.int .u64 0,.int .u64 0,.int .u64 0] 202)=w':=by
 go_enter Tryz.func77,Tryz.ntmps77;exact Vr
theorem lI:Jm 0 0 0 0:=by unfold Jm; omega
end
section
open Go.RowKit
theorem yj (b:Nat)(B S T D x:Int)(w:Zc)(h:KR w b B S T D)(hF:Jm B S T D)(hx:x>B) :
  Zi Zb 290 #[.pointer (some ⟨b,0,none⟩),.int .u64 x] w fun e w'=>e= .returned (.bool false)∧ ∃m,w'=w.drewN m:=by
 have H:=Za (EY b B S T D w h hF);clear h hF;go_enter Tryz.func290,Tryz.ntmps290;exact Zac
theorem sq (b:Nat)(B S T D T' x:Int)(w:Zc)(h:KR w b B S T D)(hF:Jm B S T D)(hx:x≤B)(hT:IntKind.u64.wrap (T+x)=T')(hG:Oz (B - x) T' D=Oz B T D)(hb:oG T' (S+x)=oG T S) :
  Zi Zb 290 #[.pointer (some ⟨b,0,none⟩),.int .u64 x] w fun e w'=>e= .returned (.bool true)∧KR w' b (B - x) (S+x) T' D∧w.grownBy w' (some b):=by
 have H:=Za (EY b B S T D w h hF);obtain ⟨c0,c1,c2,c3⟩:=h.cells;have z1:=Ku h 1;have HE:Hid (∀m,KR ((w.drewN m).setCell ⟨b,1,none⟩ (.int .u64 T')) b (B - x) (S+x) T' D∧w.grownBy ((w.drewN m).setCell ⟨b,1,none⟩ (.int .u64 T')) (some b)):=Za (fun m=>⟨by unfold KR; rw [hG,hb]; exact Vi (Xz h m) 1 _,QK (VM (JV _ _) m) (.inl rfl) _⟩);clear h hF hG hb c0 c2 c3;go_enter Tryz.func290,Tryz.ntmps290;exact Zg6
theorem o6 (b:Nat)(B S T D D':Int)(w:Zc)(h:KR w b B S T D)(hF:Jm B S T D)(hD:IntKind.u64.wrap (D+B)=D')(hG:Oz 0 T D'=Oz B T D) :
  Zi Zb 292 #[.pointer (some ⟨b,0,none⟩)] w fun e w'=>e= .returned (.int .u64 B)∧KR w' b 0 S T D'∧w.grownBy w' (some b):=by
 have H:=Za (EY b B S T D w h hF);obtain ⟨c0,c1,c2,c3⟩:=h.cells;have z1:=Ku h 2;have HE:Hid (∀m,KR ((w.drewN m).setCell ⟨b,2,none⟩ (.int .u64 D')) b 0 S T D'∧w.grownBy ((w.drewN m).setCell ⟨b,2,none⟩ (.int .u64 D')) (some b)):=Za (fun m=>⟨by unfold KR; rw [hG]; exact Vi (Xz h m) 2 _,QK (VM (JV _ _) m) (.inl rfl) _⟩);clear h hF hG c0 c1 c3;go_enter Tryz.func292,Tryz.ntmps292;exact Zg6
theorem lK (b:Nat)(B S T D x p:Int)(w:Zc)(h:KR w b B S T D)(hF:Jm B S T D)(hp:(if 18446744073709551615 - B < x then 18446744073709551615 - B else x)=p)(hG:IntKind.u64.wrap (Oz B T D+p)=Oz (B+p) T D)(hN:Jm (B+p) 0 T D)(hb:oG T 0=T) :
  Zi Zb 288 #[.pointer (some ⟨b,0,none⟩),.int .u64 x] w fun e w'=>e= .returned (.int .u64 (B+p))∧KR w' b (B+p) 0 T D∧w.grownBy w' (some b):=by
 have HF:=Za hF;have HH:=Za h;have HP:=Za hp;have qg:Hid (∀(w1:Zc),KR w1 b (B+p) 0 T D→Zi Zb 114 #[.pointer (some ⟨b,0,none⟩)] w1 fun e w'=>e= .returned (.int .u64 (B+p))∧ ∃m,w'=w1.drewN m):=Za (fun w1 h1=>EY b (B+p) 0 T D w1 h1 hN);have f0:=hF.1;have f1:B≤18446744073709551615:=by have:=hF.2.1; have:=hF.2.2.1; omega
 generalize hq:B+p=q at*;clear hq hp hF hN h;go_enter Tryz.func288,Tryz.ntmps288;go_wp2;refine MZ (fun w'=>KR w' b B S T D) 13 4 [0,1,2,3,4,5,6,7,8] (J3 HH.out) ?_;simp only [qF,qH];show ZB _ _ _ _ [_,_,_,_,_,_,_,_,_] _;iterate 4 (go_big_quiet_step ((intros; rfl)))
 refine Yw 22 _ _ (.int .u64 (Oz B T D)) rfl rfl rfl (fun w h=>by simp [go_sem,h]) (fun w h=>Yh h 0) ?_;simp only [qB];iterate 4 (go_big_quiet_step ((intros; rfl)))
 refine Zj ?_;refine Qt (i:=9) ?_;refine JM #[.pointer (some ⟨b,0,none⟩)] Tryz.call114 ((EY b B S T D _ (J3 HH.out) HF.out).mono ?_);rintro e w1 ⟨rfl,m,PQ⟩;have M1:Hid (KR w1 b B S T D):=Za (PQ▸Xz (J3 HH.out) m);have G1:Hid (w.grownBy w1 (some b)):=Za (PQ▸VM (Ay (JV _ _)) m);clear PQ;refine ⟨_,rfl,M1.out,?_⟩;simp only [YL,qG,qS];refine Wv (fun w'=>KR w' b B S T D) (m:=3) (f:=0) [10,11,12] M1.out ?_;simp only [qF,qH];show ZB _ _ _ _ [_,_,_] _;iterate 3 (go_big_quiet_step ((intros; rfl)))
 refine Zj ?_;show YH _ _ _ _ _=true∧_;refine ⟨by kernel_rfl,?_⟩;try rw [Rh]
 rw [HP.out];simp only [qA];have g1:w.grownBy (w1.setCell ⟨b,0,none⟩ (.int .u64 (Oz q T D))) (some b):=QK G1.out (.inl rfl) _;have g2:w.grownBy ((w1.setCell ⟨b,0,none⟩ (.int .u64 (Oz q T D))).setCell ⟨b,3,none⟩ (.int .u64 T)) (some b):=QK g1 (.inl rfl) _;have H2:Hid (KR ((w1.setCell ⟨b,0,none⟩ (.int .u64 (Oz q T D))).setCell ⟨b,3,none⟩ (.int .u64 T)) b q 0 T D∧w.grownBy ((w1.setCell ⟨b,0,none⟩ (.int .u64 (Oz q T D))).setCell ⟨b,3,none⟩ (.int .u64 T)) (some b)):=
  Za ⟨by unfold KR; rw [hb]; exact Vi (Vi M1.out 0 _) 3 _,g2⟩
 have c0:w1.cell? ⟨b,0,none⟩=some (.int .u64 (Oz B T D)):=Yh M1.out 0;have c3:w1.cell? ⟨b,3,none⟩=some (.int .u64 (oG T S)):=Yh M1.out 3;have c1:w1.cell? ⟨b,1,none⟩=some (.int .u64 T):=Yh M1.out 1;have z0:w1.frozen? ⟨b,0,none⟩=false:=Ku M1.out 0;have z3:w1.frozen? ⟨b,3,none⟩=false:=Ku M1.out 3;clear hb g1 g2;go_wp2;refine ZH ?_;go_wp2_with fail;refine (qg.out _ H2.out.1).mono ?_;rintro e w2 ⟨rfl,m2,rfl⟩;go_wp2_with fail;go_ret;exact ⟨rfl,Xz H2.out.1 _,VM H2.out.2 _⟩
end
section
open Go.RowKit
theorem DV {b:Nat}{D P B C:Int}{w:Zc}(h:KC w b D P B C)(hF:JA D P B C) :
  Zi Zb 234 #[.pointer (some ⟨b,0,none⟩)] w fun e w'=>e= .returned (.int .u64 (D - P - B))∧ ∃m,w'=w.drewN m:=
 aw b D P B w h.cells.1 h.cells.2.1 h.cells.2.2.1 hF.1 hF.2.1 hF.2.2.1 hF.2.2.2.1
theorem eF:(Tryz.prog.info? 305).map (fun i=>(i.zero,i.size))=some (some (.agg #[.int .i64 0,.int .u64 0]),2):=by kernel_rfl
theorem Sj (b:Nat)(D P B C x:Int)(w:Zc)(h:KC w b D P B C)(hF:JA D P B C)(hx:x>C -(D - P - B)) :
  Zi Zb 180 #[.pointer (some ⟨b,0,none⟩),.int .u64 x] w fun e w'=>e= .returned (.int .i64 4)∧ ∃m,w'=w.drewN m:=by
 have c3:=h.cells.2.2.2;have HB:Hid (∀n,Zi Zb 234 #[.pointer (some ⟨b,0,none⟩)] (w.drewN n) fun e w'=>e= .returned (.int .u64 (D - P - B))∧ ∃m,w'=(w.drewN n).drewN m):=Za (fun n=>DV (Xz h n) hF);obtain ⟨f0,f1,f2,f3,f4,f5⟩:=hF;clear h;go_enter Tryz.func180,Tryz.ntmps180;go_wp2;go_quiet ((go_at_call 234; exact Qv (HB.out _)));exact dy
theorem CA (b:Nat)(D P B C x:Int)(w:Zc)(h:KC w b D P B C)(hF:JA D P B C)(x0:0≤x)(x1:x≤18446744073709551615)(hx:x≤C -(D - P - B))(ho:18446744073709551615 < D+x) :
  Zi Zb 180 #[.pointer (some ⟨b,0,none⟩),.int .u64 x] w fun e w'=>e= .returned (.int .i64 10)∧Zt w.heap.size w w':=by
 have c3:=h.cells.2.2.2;have HB:Hid (∀n,Zi Zb 234 #[.pointer (some ⟨b,0,none⟩)] (w.drewN n) fun e w'=>e= .returned (.int .u64 (D - P - B))∧ ∃m,w'=(w.drewN n).drewN m):=Za (fun n=>DV (Xz h n) hF);have HK:Hid (∀(g:Nat) (w:Zc),KC w b D P B C→Zy w g 305 #[.int .i64 (0:Nat),.int .u64 x]→Zi Zb 235 #[.pointer (some ⟨b,0,none⟩),.slice (some ⟨g,0,none⟩) 1 1] w fun e w'=>e= .returned (.bool false)∧Zt w.heap.size w w'):=
  Za (fun g w hl hg=>vk 0 b g D P B C x D w hl hg Zp rfl (by have:=hF; unfold JA at this; omega) hF.2.2.2.1 x0 x1 Zp)
 have H:=Za h;obtain ⟨f0,f1,f2,f3,f4,f5⟩:=hF;clear h;go_enter Tryz.func180,Tryz.ntmps180;go_wp2;go_quiet ((go_at_call 234; exact Qv (HB.out _)));go_wp2_with fail;refine (HK.out w.heap.size _ (YF (Xz H.out nq) _) (Zw (w.drewN nq) _ _)).mono ?_;rintro e w1 ⟨rfl,EO⟩;go_wp2_with fail;go_ret;exact ⟨rfl,((below_drewN (Zr _ w) nq).alloc (Zg _) _).trans (EO.mono ZO)⟩
theorem ew (b:Nat)(D P B C x:Int)(w:Zc)(h:KC w b D P B C)(hF:JA D P B C)(x0:0≤x)(hx:x≤C -(D - P - B))(ho:D+x≤18446744073709551615) :
  Zi Zb 180 #[.pointer (some ⟨b,0,none⟩),.int .u64 x] w fun e w'=>e= .returned (.int .i64 0)∧KC w' b (D+x) P B C∧w.grownBy w' (some b):=by
 have c3:=h.cells.2.2.2;have HB:Hid (∀n,Zi Zb 234 #[.pointer (some ⟨b,0,none⟩)] (w.drewN n) fun e w'=>e= .returned (.int .u64 (D - P - B))∧ ∃m,w'=(w.drewN n).drewN m):=Za (fun n=>DV (Xz h n) hF);have HK:Hid (∀(g:Nat) (w:Zc),KC w b D P B C→Zy w g 305 #[.int .i64 (0:Nat),.int .u64 x]→Zi Zb 235 #[.pointer (some ⟨b,0,none⟩),.slice (some ⟨g,0,none⟩) 1 1] w fun e w'=>e= .returned (.bool true)∧KC w' b (D+x) P B C∧w.grownBy w' (some b)):=
  Za (fun g w hl hg=>az 0 b g D P B C (D+x) P B x D w hl hg Zp rfl rfl (by have:=hF; unfold JA at this; omega) x0 ho)
 have H:=Za h;obtain ⟨f0,f1,f2,f3,f4,f5⟩:=hF;clear h;go_enter Tryz.func180,Tryz.ntmps180;go_wp2;go_quiet ((go_at_call 234; exact Qv (HB.out _)));go_wp2_with fail;refine (HK.out w.heap.size _ (YF (Xz H.out nq) _) (Zw (w.drewN nq) _ _)).mono ?_;rintro e w1 ⟨rfl,wg,hg1⟩;have HE:=Za (And.intro wg (SU (DA (VM (JV w (some b)) nq) _) hg1));clear wg hg1;go_wp2_with fail;go_ret;exact ⟨rfl,HE.out⟩
theorem NW (b s:Nat)(D P B C D' P' B' x y:Int)(w:Zc)(h:KC w b D P B C)(hF:JA D P B C)(hx:x≤D - P - B)(x0:0≤x)(hs:s < 3)
  (hy:(#[.int .u64 D,.int .u64 P,.int .u64 B] :Array Zo)[s]?=some (.int .u64 y)) (hup:(#[.int .u64 D,.int .u64 P,.int .u64 B] :Array Zo).setIfInBounds s (.int .u64 (y+x))= #[.int .u64 D',.int .u64 P',.int .u64 B'])
  (y0:0≤y) (EU:y+x≤18446744073709551615) :
  Zi Zb 250 #[.pointer (some ⟨b,0,none⟩),.agg #[.int .i64 s,.int .u64 x]] w fun e w'=>e= .returned (.int .i64 0)∧KC w' b D' P' B' C∧w.grownBy w' (some b):=by
 have HK:Hid (∀(g:Nat) (w:Zc),KC w b D P B C→Zy w g 305 #[.int .i64 s,.int .u64 x]→Zi Zb 235 #[.pointer (some ⟨b,0,none⟩),.slice (some ⟨g,0,none⟩) 1 1] w fun e w'=>e= .returned (.bool true)∧KC w' b D' P' B' C∧w.grownBy w' (some b)):=
  Za (fun g w hl hg=>az s b g D P B C D' P' B' x y w hl hg hs hy hup y0 x0 EU)
 have IW:Hid (some w.heap.size≠some b):=Za (by have:=Zy.lt h; intro e; injection e with e; omega);have HF:=Za hF;have H1:Hid (KC (w.alloc (.cells #[.int .i64 s,.int .u64 x] 305)) b D P B C):=Za (YF h _);have HE:Hid (Zy (w.alloc (.cells #[.int .i64 s,.int .u64 x] 305)) w.heap.size 305 #[.int .i64 s,.int .u64 x]):=Za (Zw _ _ _);have HG:Hid (w.grownBy (w.alloc (.cells #[.int .i64 s,.int .u64 x] 305)) (some b)):=Za (DA (JV _ _) _);clear h hF hy hup EU;go_enter Tryz.func250,Tryz.ntmps250;go_wp2;generalize w.alloc (.cells #[.int .i64 s,.int .u64 x] 305)=W at*;refine MZ (fun w'=>Zy w' w.heap.size 305 #[.int .i64 s,.int .u64 x]) 14 9 [0,1,2,3,4] (J3 HE.out) ?_;simp only [qF,qH];show ZB _ _ _ _ [_,_,_,_,_] _;iterate 1 (go_big_quiet_step ((intros; rfl)))
 refine Yw 22 _ _ (.int .u64 x) rfl rfl rfl (fun w h=>by simp [go_sem,h]) (fun w h=>Yh h 1) ?_;simp only [qB];iterate 3 (go_big_quiet_step ((intros; rfl)))
 refine Zj ?_;refine Qt (i:=5) ?_;refine JM #[.pointer (some ⟨b,0,none⟩)] Tryz.call234 ((DV (J3 H1.out) HF.out).mono ?_);rintro e w1 ⟨rfl,m,rfl⟩;refine ⟨_,rfl,Xz (J3 HE.out) m,?_⟩;have HX:Hid (decide (D - P - B < x)=false):=Za (by simpa using hx);simp only [YL,qG,qS];refine Wv (fun w'=>Zy w' w.heap.size 305 #[.int .i64 s,.int .u64 x]) (m:=8) (f:=2) [6,7,8,9,10,11] (Xz (J3 HE.out) m) ?_;simp only [qF,qH];show ZB _ _ _ _ [_,_,_,_,_,_] _;iterate 1 (go_big_quiet_step ((intros; rfl)))
 rw [HX.out];iterate 4 (go_big_quiet_step ((intros; rfl)))
 refine Qg 305 (.tmp 3) w.heap.size 305 _ _ Yi rfl rfl (fun _ h=>h) Tryz.underlying305 rfl qN ?_;simp only [qB];refine Zj ?_;refine Qt (i:=12) ?_;refine du rfl Yi (Jq 340 305 (.tmp 18) _ (.int .i64 s) (.int .u64 x) rfl rfl Tryz.underlying340 eF ⟨YF (Xz (J3 HE.out) m) _,?_⟩);simp only [YL,qG,qS];refine Qt (i:=13) ?_;refine du rfl Yi (TT rfl #[.pointer (some ⟨b,0,none⟩),.slice (some ⟨(W.drew.drewN m).heap.size,0,none⟩) 1 1] Yi Tryz.call235 ((HK.out (W.drew.drewN m).heap.size _ (YF (Xz (J3 H1.out) m) _) (Zw (W.drew.drewN m) _ _)).mono ?_));rintro e w2 ⟨rfl,qf,Wg⟩;have hE2:=(YF (Xz (J3 HE.out) m) (.cells #[.int .i64 s,.int .u64 x] 305)).grown Wg IW.out;have HZ:=Za (And.intro qf (SU (DA (VM (Ay HG.out) m) _) Wg));refine ⟨_,rfl,hE2,?_⟩;clear qf Wg hE2;show YH _ _ _ _ _=true∧_;refine ⟨by kernel_rfl,?_⟩;simp only [qA];go_wp2;refine ZH ?_;go_wp2;go_ret;exact ⟨rfl,HZ.out⟩
end
section
open Go.RowKit
section
variable (b:Nat) (D P B C x:Int) (w:Zc) (h:KC w b D P B C) (hF:JA D P B C)
include h hF
theorem xm (x0:0≤x)(hx:x≤D - P - B) :Zi Zb 269 #[.pointer (some ⟨b,0,none⟩),.int .u64 x] w fun e w'=>e= .returned (.int .i64 0)∧KC w' b D (P+x) B C∧w.grownBy w' (some b):=by
 have H:=Za (NW b 1 D P B C D (P+x) B x P w h hF hx x0 Zp rfl rfl hF.1 (by unfold JA at hF; omega));clear h hF hx;go_enter Tryz.func269,Tryz.ntmps269;exact ZgQ
theorem oU (x0:0≤x)(hx:x≤D - P - B) :Zi Zb 195 #[.pointer (some ⟨b,0,none⟩),.int .u64 x] w fun e w'=>e= .returned (.int .i64 0)∧KC w' b D P (B+x) C∧w.grownBy w' (some b):=by
 have H:=Za (NW b 2 D P B C D P (B+x) x B w h hF hx x0 Zp rfl rfl hF.2.1 (by unfold JA at hF; omega));clear h hF hx;go_enter Tryz.func195,Tryz.ntmps195;exact ZgQ
end
end
end Go.Proofs.YtianiiijaopdpaaGreat
