/- Part 25 of 29: Sla Con Wdr Beg End. -/
import Derived.Test.YtianiiijaopdpaaGreatZy00
import Derived.Test.YtianiiijaopdpaaGreatZy24
namespace Go.Proofs.YtianiiijaopdpaaGreat
set_option linter.unusedVariables false
set_option linter.unusedSimpArgs false
set_option maxRecDepth 100000
set_option maxHeartbeats 8000000
open _root_.And renaming intro → Zh
open _root_.Go.RowKit renaming Below → Zs
open _root_.Go.Proofs.YtianiiijaopdpaaGreat.Blk renaming setRow → QS
open _root_.Go renaming Calls → Zj, World → Zc, bodyPost_ret → ZL, heap_alloc_new → ZG, results_cell_row → ZO, setRow_heap → Z6, wpList_load_row → Zn, wpList_store_row → Zo, wpQuiet → ZW, wpQuiet_nil → Xx, wp_store_row → X9
open _root_.Go.Calls renaming quiet_of → Qw
open _root_.Go.Proofs.YtianiiijaopdpaaGreat.Eg renaming blkAt → VZ, drew → Va
open _root_.Go.Proofs.YtianiiijaopdpaaGreat.Kept renaming refl → ZH, setRow → XK
open _root_.Go.Lib renaming hid → Za
open _root_.List renaming append_nil → XH, filter_cons → Vz, getD_eq_getElem?_getD → Zq, getElem?_eq_getElem → Zf, getElem?_map → ZP, length_filter_le → JX, length_map → YE, length_set → Xt, map_map → VP, mem_of_getElem? → ZB, mem_of_mem_take → ZK, take_add_one → YR, take_of_length_le → Yv
open _root_.Go.NoPanic renaming normal → Yr
open _root_.Go.Proofs.YtianiiijaopdpaaGreat.Of renaming op → Kx, rc → V6
open _root_.Option renaming toList_some → Qt
open _root_.Go.Proofs.Tryz renaming call54 → Ke, prog → Zb, underlying37 → ZV, underlying42 → Yb, underlying48 → XA, underlying49 → Xq, underlying63 → Zr, underlying75 → Z3
open _root_.Go.Value renaming int → ZR
open _root_.Go.World renaming setRow_alloc_new → Zu
theorem jn {G:Prop}(h:G:=by show Zz W≤_; rw [Ml.2.1]; exact HX.out.2.2.2.1) :G:=h
theorem jg {G:Prop}(h:G:=by rw [List.getD_eq_getElem?_getD,List.getElem?_eq_getElem Fz]; exact List.getElem_mem Fz) :G:=h
theorem Zcp {G H:Prop} (k:H) (h:BZ H→G:=by
  intro zk;refine YJ _ _ ⟨q.e,29,none⟩ (.pointer (some ⟨q.q,0,none⟩)) rfl rfl rfl (fun w h=>by simp [go_sem,h]) (fun w h=>h.1.cell 29) ?_;exact zk.out) :G:=h ⟨k⟩
theorem Zcq {G H:Prop} (k:H) (h:BZ H→G:=by
  intro zk;refine YJ _ _ ⟨q.e,28,none⟩ (.pointer (some ⟨q.d,0,none⟩)) rfl rfl rfl (fun w h=>by simp [go_sem,h]) (fun w h=>h.1.cell 28) ?_;exact zk.out) :G:=h ⟨k⟩
theorem ZfC {G H:Prop} (k:H) (h:BZ H→G:=by
  intro zk;refine FI 24 _ q.e 0 (Zk c).toList _ rfl rfl rfl (fun w h=>Nh (Eg.blk h)) Tryz.underlying24 rfl XG ?_;exact zk.out) :G:=h ⟨k⟩
theorem ZfZ {G:Prop} (h:G:=by
  generalize W3.drewN nq=W4 at*;go_wp2_with fail;refine np.out.mono ?_;rintro e w6 ⟨rfl,h6⟩;have H6:=Lib.hid h6;clear h6 np;go_wp2_with fail;go_roundw
  case rel=>exact ⟨k+1,by omega,by go_num,H6⟩
  case measure=>simp [intOf]; omega) :G:=h
theorem ZcH {G:Prop} (h:G:=by
  go_wp2_with fail;go_roundw
  case rel=>exact ⟨k+1,by omega,by go_num,H6⟩
  case measure=>simp [intOf]; omega) :G:=h
theorem ZgH {G:Prop} (h:G:=by
  exact ⟨MX.out.drew.blk,MX.out.drew.blkAt (r:=N+2) ZJ Ze xput_same⟩) :G:=h
theorem zu {G:Prop} (h:G:=by
  exact ⟨TV.out.blk,TV.out.blkAt (r:=N+2) ZJ Ze xput_same⟩) :G:=h
section
open Go Go.RowKit Go.Deep
theorem jQ {V:List Yd}{n:Nat}{v:Yd}(hf: ∀v ∈ V,Yo v)(hv:V[n]?=some v) :v.bal≤Zz V:=by
 have h1: ∀x ∈ V.set n { v with bal:=0},Yo x:=Gw hf ⟨rfl,(hf v (QM hv)).2⟩;have h2:=Ka h1;rw [J3 hv] at h2;simp only at h2;omega
def cm (c:Nat→Int)(s:Sg)(o:Oq)(L:List QT) :List QT:=if Iz c s o.ix=0 then L++wX c s o.ix else L
section
variable {N:Nat} {w0:DR} {w w' w1:Zc} {c:Nat→Int} {a:Pl} {q:Ql} {Z:Nat→Zc→(Nat→Prop)→Prop} {s s':Sg} {L L':List QT} {k:Nat}
theorem fQ {o:Oq}{kk:Int}(h:Iz c s o.ix=kk)(hk:kk≠0) :Wp c s o=(Ge s o.kd kk,s):=by unfold Wp; rw [h,if_neg hk]
theorem wY {o:Oq}(h:Iz c s o.ix=0) :Wp c s o=(Fo s o.kd o.ix (-1),MZ c s o.ix):=by unfold Wp; rw [if_pos h]
theorem ZaD (hc:GE c)(hi:Inv c k s)(hk:k≤1000000)(h:Eg N w0 w c a q Z s L)(o:Oq)(ho:Kk o)(hL:L.length≤100000) :Zj Zb 86 #[.pointer (some ⟨q.e,0,none⟩),.agg (ZM o)] w (tS N w0 c a q Z (Wp c s o) (cm c s o L)):=by
 have hN:=h.low;have hO:=DA h o;have HT:=Za (hi.tm hc hk);have HN:=Za hN;have HC:=Za (Zh hc (Zh hi (Zh hk (Zh ho hL))));have hex:=Zfj hc hi hk o.ix;have tH:=Za hex;obtain ⟨u,hu⟩ : ∃u,(if Et s.V o.ix=true then ZZ else Ub s.V o.ix)=u:=⟨_,rfl⟩;obtain ⟨ok,PJ⟩ : ∃ok,(!Et s.V o.ix)=ok:=⟨_,rfl⟩;have HU:=Za (Zh hu PJ);have tJ:Hid (∀wx,Of N w0 wx c a q Z s L w.heap.size o→Zj Zb 70 #[.pointer (some ⟨a.r,0,none⟩),.int .i64 o.ix] wx fun e w'=>e= .returned (.tuple #[.agg (Zd u),.bool ok])∧Zs wx.heap.size wx w'):=Za (fun wx hx=>by
  obtain ⟨X,hX,Uf,hh,_⟩:=Eg.open hx
  cases hb:Et s.V o.ix with
  | true=>
   rw [hb] at hu PJ;rw [←hu,←PJ];exact hh.get_out Uf (by simpa [Et] using hb)
  | false=>
   rw [hb] at hu PJ;obtain ⟨n,e,hn⟩:=Bb hb;rw [←hu,←PJ];have:=hh.get_in Uf hn;rw [←e] at this;exact this)
 clear hc hi hk ho hL hN h hex hu PJ;go_enter Tryz.func86,Tryz.ntmps86;go_upto_region 1 with (fail);generalize hW:(w.alloc (.cells (ZM o) 37)).alloc (.cells _ 42)=W;have eW:(w.alloc (.cells (ZM o) 37)).alloc (.cells (Zw Gg) 42)=W:=hW;rw [eW] at hO;generalize w.heap.size=b at*;have HO:=Za hO;clear hW eW hO;go_cut [5,6] from 10 to 20 (fun s5 s6 wx=> ∃zb:Nat,s5= .pointer (some ⟨zb,0,none⟩)∧s6= .bool ok∧Hid (Eg (N+2+1) w0 wx c a q (ZD (ZD (ZD Z N (YW b 37 (ZM o))) (N+1) (YW (b+1) 42 (Zw Gg))) (N+2) (YW zb 63 (Zd u))) s L))
 case first=>
  exact zT1
 case rest=>
  obtain ⟨zb,rfl,rfl,HE⟩:=hcut;clear tJ HO
  cases hb:Et s.V o.ix with
  | true=>
   have vw:Iz c s o.ix=7:=by rw [tH.out,if_pos hb]
   have db:Hid (Wp c s o=(Ge s o.kd 7,s)∧cm c s o L=L):=Za ⟨fQ vw YU,by unfold cm; rw [vw]; rfl⟩;obtain rfl:ok=false:=by rw [←HU.out.2,hb]; rfl
   have HD:Hid (Of N w0 wc c a q Z s L b o):=Za (HE.out.drop ZJ);have HE:=db;clear db tH HU HC hb vw;have VJ:=Za (Kx HD.out HN.out);go_wp2_with (first | (refine Zn rfl 37 _ rfl b rfl 37 _ (0,0) _ VJ.out ZV rfl QL ?_));refine (Vw (N:=N+2) HD.out HT.out o 7).mono ?_;rintro e w9 ⟨rfl,h9⟩;have H9:Hid (Of N w0 w9 c a q Z s L b o):=Za h9;have VG:=Za (V6 h9 HN.out);clear h9 VJ HD;go_wp2_with (first | (refine Zo rfl _ _ _ rfl (b+1) (Zw (VX o.kd 7 s.bk s.ep)) rfl rfl 42 _ VG.out YS rfl (YH _) ?_));exact ZL (v:= .agg (Zw (VX o.kd 7 s.bk s.ep))) (ZO (fn:=Tryz.f86) rfl _ _ (b+1) 42 _ (0,0) _ rfl (Z6 _ _ _ _ _ _ VG.out) Yb rfl YS) rfl (Zh JW KU)
  | false=>
   obtain rfl:ok=true:=by rw [←HU.out.2,hb]; rfl
   have hu:=HU.out.1;rw [hb] at hu;replace hu:Ub s.V o.ix=u:=hu;obtain ⟨n,hn,aN⟩:=Bb hb;have hex:=tH.out;rw [hb,hu] at hex;replace hex:Iz c s o.ix=if u.st=2∧c 1≤s.F.length then 6 else(LU u s.ep c).1:=hex
   rw [hu] at aN;have HV:=Za (Zh hn (Zh aN hu));have HX0:=Za hex;have y1:wc.cell? ⟨zb,1,none⟩=some (.int .i64 u.st):=(HE.out.blkAt (r:=N+2) ZJ Ze xput_same).cell 1;have HF:Hid (Zj Zb 125 #[.pointer (some ⟨q.e,24,none⟩),.int .i64 0] wc fun e w'=>e= .returned (.bool (((Hw (c 1).toNat s.F s.W 0:Nat) :Int)==0))∧ ∃m,w'=wc.drewN m):=Za (yu HE.out 0);obtain ⟨f,hf⟩ : ∃f,Hw (c 1).toNat s.F s.W 0=f:=⟨_,rfl⟩;rw [hf] at HF;rw [MB (.inl rfl)] at hf;replace hf:(c 1).toNat - s.F.length=f:=hf;have hll:(s.F.length:Int)≤c 1:=HC.out.2.1.fl;clear tH HU hb hex hu hn aN
   by_cases h6:u.st=2∧c 1≤(s.F.length:Int)
   ·have hs6:Iz c s o.ix=6:=by rw [HX0.out,if_pos h6]
    have da:Hid (Wp c s o=(Ge s o.kd 6,s)∧cm c s o L=L):=Za ⟨fQ hs6 YU,by unfold cm; rw [hs6]; rfl⟩;have d2:(u.st==2)=true:=by simp [h6.1]
    obtain rfl:f=0:=by omega
    clear h6 hll hf HX0 HV HC hs6;go_wp2_with fail;refine HF.out.mono ?_;rintro e w2 ⟨rfl,m,rfl⟩;have HD:Hid (Of N w0 (wc.drewN m) c a q Z s L b o):=Za ((HE.out.drop ZJ).drewN m);clear HF HE y1;have HE:=da;clear da d2;generalize wc.drewN m=V at*;have VJ:=Za (Kx HD.out HN.out);go_wp2_with (first | (refine Zn rfl 37 _ rfl b rfl 37 _ (0,0) _ VJ.out ZV rfl QL ?_));refine (Vw (N:=N+2) HD.out HT.out o 6).mono ?_;rintro e w9 ⟨rfl,h9⟩;have H9:Hid (Of N w0 w9 c a q Z s L b o):=Za h9;have VG:=Za (V6 h9 HN.out);clear h9 VJ HD;go_wp2_with (first | (refine Zo rfl _ _ _ rfl (b+1) (Zw (VX o.kd 6 s.bk s.ep)) rfl rfl 42 _ VG.out YS rfl (YH _) ?_));exact ZL (v:= .agg (Zw (VX o.kd 6 s.bk s.ep))) (ZO (fn:=Tryz.f86) rfl _ _ (b+1) 42 _ (0,0) _ rfl (Z6 _ _ _ _ _ _ VG.out) Yb rfl YS) rfl (Zh JW KU)
   ·go_upto_region 4 with (fail);go_cut [27] from 28 to 36 (fun s27 wx=>s27= .bool false∧Hid (Eg (N+2+1) w0 wx c a q (ZD (ZD (ZD Z N (YW b 37 (ZM o))) (N+1) (YW (b+1) 42 (Zw Gg))) (N+2) (YW zb 63 (Zd u))) s L))
    case first=>
     by_cases h2:u.st=2
     ·have d2:(u.st==2)=true:=by simp [h2]
      have hfp:((f:Int)==0)=false:=by simp; omega
      clear h6 h2;go_wp2_with fail;refine HF.out.mono ?_;rintro e w2 ⟨rfl,m,rfl⟩;have Hh:=Za (HE.out.drewN m);go_wp2_with fail;go_meet;exact ⟨rfl,Hh⟩
     ·have d2:(u.st==2)=false:=by simp [h2]
      go_wp2_with fail;go_meet;exact ⟨rfl,HE⟩
    case rest=>
     obtain ⟨rfl,Hh⟩:=hcut;clear HF HE y1;generalize wc=W2 at*;have L5: ∃r2 cd am,(LU u s.ep c).2=r2∧(LU u s.ep c).1=cd∧tf u s.ep c=am:=⟨_,_,_,rfl,rfl,rfl⟩;obtain ⟨r2,cd,am,L5,hcd,ham⟩:=L5;have HSl:Hid (∀wx,Zj Zb 126 #[.agg (Zd u),.int .i64 s.ep,.agg (Zk c)] wx fun e w'=>e= .returned (.tuple #[.agg (Zd r2),.int .u64 am,.int .i64 cd])∧Zs wx.heap.size wx w'):=Za (fun wx=>by
      have h0:=mc s.ep wx (HC.out.2.1.fits u (QM HV.out.2.1)) HC.out.1.gc;unfold RE at h0;rw [L5,hcd,ham] at h0;exact h0)
     have yi:Hid (Iz c s o.ix=cd):=Za (by rw [HX0.out,if_neg Ze,hcd]);have HR:=Za (Zh L5 (Zh hcd ham));have HF6:Hid (u.st=2→(s.F.length:Int)< c 1):=Za (fun e=>by omega);clear L5 hcd ham h6 hll hf HX0;go_upto_region 6 with (fail);go_cut [7,8,9] from 40 to 53 (fun s7 s8 s9 wx=> ∃zs:Nat,s7= .pointer (some ⟨zs,0,none⟩)∧s8= .int .u64 am∧s9= .int .i64 cd∧Hid (Eg (N+2+1+1) w0 wx c a q (ZD (ZD (ZD (ZD Z N (YW b 37 (ZM o))) (N+1) (YW (b+1) 42 (Zw Gg))) (N+2) (YW zb 63 (Zd u))) (N+3) (YW zs 63 (Zd r2))) s L))
     case first=>
      refine Pu (fun w'=>Eg (N+2+1) w0 w' c a q (ZD (ZD (ZD Z N (YW b 37 (ZM o))) (N+1) (YW (b+1) 42 (Zw Gg))) (N+2) (YW zb 63 (Zd u))) s L) 10 [0,1,2,3,5,6,7,8] (?_) ?_
      ·exact Hh.out.drew
      simp only [qF,qH];show ZW _ _ _ _ [_,_,_,_,_,_,_,_] _;refine Jw 63 _ zb 63 (Zd u) _ rfl rfl rfl (fun w h=>VZ (r:=N+2) h ZJ Ze xput_same) Zr rfl Ym ?_;simp only [qB];iterate 6 (go_big_quiet_step ((intros; rfl)))
      refine FI 24 _ q.e 0 (Zk c).toList _ rfl rfl rfl (fun w h=>Nh (Eg.blk h)) Tryz.underlying24 rfl XG ?_;refine Xx ?_;have HX:=Za Hh.out.drew;clear Hh;generalize W2.drew=V0 at*;refine UQ (i:=4) (k:=14) Ye ZI ZI ?_ ?_
      ·refine JZ #[.pointer (some ⟨q.e,20,none⟩)] Ke ((Bd HX.out HT.out.b0 HT.out.b1 HT.out.l HT.out.q).mono ?_);rintro e w4 ⟨rfl,m4,rfl⟩;replace HX:=Za (HX.out.drewN m4);refine ⟨_,rfl,HX.out,?_⟩;generalize V0.drewN m4=V1 at*;try simp only [qA]
       refine UQ (i:=9) (k:=14) Ye ZI ZI ?_ ?_
       ·refine JZ #[.agg (Zd u),.int .i64 s.ep,.agg (Zk c)] Tryz.call126 ((HSl.out _).mono ?_);rintro e w5 ⟨rfl,hb5⟩;replace HX:=Za (HX.out.below hb5);refine ⟨_,rfl,HX.out,?_⟩;clear hb5;try simp only [qA]
        refine FX (fun w'=>Eg (N+2+1) w0 w' c a q (ZD (ZD (ZD Z N (YW b 37 (ZM o))) (N+1) (YW (b+1) 42 (Zw Gg))) (N+2) (YW zb 63 (Zd u))) s L) (m:=8) (f:=4) [10,11,12,13] (?_) ?_
        ·exact HX.out
        simp only [qF,qH];show ZW _ _ _ _ [_,_,_,_] _;iterate 4 (go_big_quiet_step ((intros; rfl)))
        refine Xx ?_;refine hfO (i:=14) ?_;refine YD rfl rfl (Kv rfl ?_);replace HX:=Za (Eg.box HX.out (Zd ZZ) 63);refine ⟨HX.out.drop ZJ,?_⟩;generalize w5.heap.size=zs at*;generalize w5.alloc (.cells (Zd ZZ) 63)=V3 at*;try simp only [qA]
        refine hfO (i:=15) ?_;have hB:=HX.out.blkAt (r:=N+2+1) ZJ Ze xput_same;refine YD rfl rfl (X9 _ _ _ rfl zs (Zd r2) rfl rfl 63 _ hB Ym rfl (Yx _) ?_);have h7:=HX.out.setr (r:=N+2+1) ZJ Ze xput_same (cs':=Zd r2) (QS hB _) (XK (S:=fun i=>i=zs) (ZH _ _) (.inl rfl) _);rw [Xk] at h7;have h8:=h7.drop ZJ;refine ⟨h8,?_⟩;clear HX hB;generalize V3.setRow zs (Zd r2)=w7 at*;try simp only [qA]
        refine FX (fun w'=>Eg (N+2+1) w0 w' c a q (ZD (ZD (ZD Z N (YW b 37 (ZM o))) (N+1) (YW (b+1) 42 (Zw Gg))) (N+2) (YW zb 63 (Zd u))) s L) (m:=2) (f:=0) [16,17] (?_) ?_
        ·exact h8
        simp only [qF,qH];show ZW _ _ _ _ [_,_] _;iterate 2 (go_big_quiet_step ((intros; rfl)))
        refine Xx ?_;refine ⟨by kernel_rfl,Yr ?_⟩;try simp only [qA]
        go_wp2_with fail;go_meet;exact ⟨_,rfl,rfl,rfl,Za h7⟩
       ·refine YD rfl rfl (Kv rfl ?_);replace HX:=Za (Eg.box HX.out (Zd ZZ) 63);refine ⟨HX.out.drop ZJ,?_⟩;generalize V1.heap.size=zs at*;generalize V1.alloc (.cells (Zd ZZ) 63)=V2 at*;try simp only [qA]
        refine hfO (i:=9) ?_;refine JZ #[.agg (Zd u),.int .i64 s.ep,.agg (Zk c)] Tryz.call126 ((HSl.out _).mono ?_);rintro e w5 ⟨rfl,hb5⟩;replace HX:=Za (HX.out.below hb5);refine ⟨_,rfl,HX.out.drop ZJ,?_⟩;clear hb5;try simp only [qA]
        refine FX (fun w'=>Eg (N+2+1) w0 w' c a q (ZD (ZD (ZD Z N (YW b 37 (ZM o))) (N+1) (YW (b+1) 42 (Zw Gg))) (N+2) (YW zb 63 (Zd u))) s L) (m:=7) (f:=3) [10,11,12,13] (?_) ?_
        ·exact HX.out.drop ZJ
        simp only [qF,qH];show ZW _ _ _ _ [_,_,_,_] _;iterate 4 (go_big_quiet_step ((intros; rfl)))
        refine Xx ?_;refine hfO (i:=15) ?_;have hB:=HX.out.blkAt (r:=N+2+1) ZJ Ze xput_same;refine YD rfl rfl (X9 _ _ _ rfl zs (Zd r2) rfl rfl 63 _ hB Ym rfl (Yx _) ?_);have h7:=HX.out.setr (r:=N+2+1) ZJ Ze xput_same (cs':=Zd r2) (QS hB _) (XK (S:=fun i=>i=zs) (ZH _ _) (.inl rfl) _);rw [Xk] at h7;have h8:=h7.drop ZJ;refine ⟨h8,?_⟩;clear HX hB;generalize w5.setRow zs (Zd r2)=w7 at*;try simp only [qA]
        refine FX (fun w'=>Eg (N+2+1) w0 w' c a q (ZD (ZD (ZD Z N (YW b 37 (ZM o))) (N+1) (YW (b+1) 42 (Zw Gg))) (N+2) (YW zb 63 (Zd u))) s L) (m:=2) (f:=0) [16,17] (?_) ?_
        ·exact h8
        simp only [qF,qH];show ZW _ _ _ _ [_,_] _;iterate 2 (go_big_quiet_step ((intros; rfl)))
        refine Xx ?_;refine ⟨by kernel_rfl,Yr ?_⟩;try simp only [qA]
        go_wp2_with fail;go_meet;exact ⟨_,rfl,rfl,rfl,Za h7⟩
      ·refine YD rfl rfl (Kv rfl ?_);replace HX:=Za (Eg.box HX.out (Zd ZZ) 63);refine ⟨HX.out.drop ZJ,?_⟩;generalize V0.heap.size=zs at*;generalize V0.alloc (.cells (Zd ZZ) 63)=V1 at*;try simp only [qA]
       refine hfO (i:=4) ?_;refine JZ #[.pointer (some ⟨q.e,20,none⟩)] Ke ((Bd HX.out HT.out.b0 HT.out.b1 HT.out.l HT.out.q).mono ?_);rintro e w4 ⟨rfl,m4,rfl⟩;replace HX:=Za (HX.out.drewN m4);refine ⟨_,rfl,HX.out.drop ZJ,?_⟩;generalize V1.drewN m4=V2 at*;try simp only [qA]
       refine hfO (i:=9) ?_;refine JZ #[.agg (Zd u),.int .i64 s.ep,.agg (Zk c)] Tryz.call126 ((HSl.out _).mono ?_);rintro e w5 ⟨rfl,hb5⟩;replace HX:=Za (HX.out.below hb5);refine ⟨_,rfl,HX.out.drop ZJ,?_⟩;clear hb5;try simp only [qA]
       refine FX (fun w'=>Eg (N+2+1) w0 w' c a q (ZD (ZD (ZD Z N (YW b 37 (ZM o))) (N+1) (YW (b+1) 42 (Zw Gg))) (N+2) (YW zb 63 (Zd u))) s L) (m:=7) (f:=3) [10,11,12,13] (?_) ?_
       ·exact HX.out.drop ZJ
       simp only [qF,qH];show ZW _ _ _ _ [_,_,_,_] _;iterate 4 (go_big_quiet_step ((intros; rfl)))
       refine Xx ?_;refine hfO (i:=15) ?_;have hB:=HX.out.blkAt (r:=N+2+1) ZJ Ze xput_same;refine YD rfl rfl (X9 _ _ _ rfl zs (Zd r2) rfl rfl 63 _ hB Ym rfl (Yx _) ?_);have h7:=HX.out.setr (r:=N+2+1) ZJ Ze xput_same (cs':=Zd r2) (QS hB _) (XK (S:=fun i=>i=zs) (ZH _ _) (.inl rfl) _);rw [Xk] at h7;have h8:=h7.drop ZJ;refine ⟨h8,?_⟩;clear HX hB;generalize w5.setRow zs (Zd r2)=w7 at*;try simp only [qA]
       refine FX (fun w'=>Eg (N+2+1) w0 w' c a q (ZD (ZD (ZD Z N (YW b 37 (ZM o))) (N+1) (YW (b+1) 42 (Zw Gg))) (N+2) (YW zb 63 (Zd u))) s L) (m:=2) (f:=0) [16,17] (?_) ?_
       ·exact h8
       simp only [qF,qH];show ZW _ _ _ _ [_,_] _;iterate 2 (go_big_quiet_step ((intros; rfl)))
       refine Xx ?_;refine ⟨by kernel_rfl,Yr ?_⟩;try simp only [qA]
       go_wp2_with fail;go_meet;exact ⟨_,rfl,rfl,rfl,Za h7⟩
     case rest=>
      obtain ⟨zs,rfl,rfl,rfl,MX⟩:=hcut;clear HSl Hh
      by_cases h0:cd=0
      ·subst h0;have d0:((0:Int) != 0)=false:=rfl;have PX:Hid (Of N w0 wc c a q Z s L b o):=Za ((MX.out.drop ZJ).drop ZJ);have k1:=Of.k1 PX.out HN.out;have AS:=Za (MX.out.blkAt (r:=N+3) ZJ Ze xput_same);have hu:=HC.out.2.1.fits u (QM HV.out.2.1);have hsb:=At (v:=u) s.ep c HR.out.2.1;rw [HR.out.1,HR.out.2.2] at hsb;have Dv:=Tn (v:=u) (e:=s.ep) (c:=c) hu HR.out.2.1;rw [HR.out.1] at Dv;have ham:0≤am:=by
        have h1:=LN c hu;have h2:=HR.out.2.2;unfold tf at h2;rw [if_pos HR.out.2.1] at h2;omega
       have hr2b:=(bounds_u64 Dv.1).1;have hbt:=jQ HC.out.2.1.fits HV.out.2.1;have aP:=HC.out.2.1.total HC.out.1;have ME:=HC.out.2.1.sum;have HBu:Hid (∀m,Zj Zb 127 #[.pointer (some ⟨q.e,21,none⟩),.int .i64 o.ix,.agg (Zd r2),.int .u64 am] (wc.drewN m) fun e w'=>e= .returned (.tuple #[])∧Eg (N+2+1+1) w0 w' c a q (ZD (ZD (ZD (ZD Z N (YW b 37 (ZM o))) (N+1) (YW (b+1) 42 (Zw Gg))) (N+2) (YW zb 63 (Zd u))) (N+3) (YW zs 63 (Zd r2))) { s with V:=s.V.set n r2,B:=s.B+am} L):=Za (fun m=>by
        have:=Zd9 (MX.out.drewN m) HV.out.2.1 Dv Ze (Inv.fits06 HC.out.1 HC.out.2.1) ham (x:=am) Ze;rw [←HV.out.1] at this;exact this)
       have hS:MZ c s o.ix= { s with V:=s.V.set n r2,B:=s.B+am,F:=if u.st=2 then s.F++[o.ix] else s.F}:=by
        unfold MZ;rw [HV.out.2.2,HR.out.1,HR.out.2.2,HV.out.1];rfl
       have HS:=Za hS;have mI:Hid (Wp c s o=(Fo s o.kd o.ix (-1),MZ c s o.ix)∧cm c s o L=L++wX c s o.ix):=Za ⟨wY yi.out,by unfold cm; rw [if_pos yi.out]⟩;have nw:Hid (Tm c (MZ c s o.ix)):=Za ⟨HT.out.b0,HT.out.b1,HT.out.l,HT.out.q⟩;clear hu hsb Dv ham hr2b hbt aP ME hS PX MX;go_wp2_with fail;refine wqT 7 ?_;simp only [qT,qD];iterate 5 (go_big_quiet_step ((intros; rfl)))
       refine Jw 63 _ zs 63 (Zd r2) _ rfl rfl rfl (fun w' h=>by obtain ⟨m,rfl⟩:=h; exact AS.out) Zr rfl Ym ?_;simp only [qB];iterate 1 (go_big_quiet_step ((intros; rfl)))
       refine Xx ?_;intro _ JB;obtain ⟨nr,Xh⟩:=JB;subst Xh;clear AS k1;go_wp2_with fail;refine (HBu.out nr).mono ?_;rintro e w4 ⟨rfl,h4⟩;have Px:=Za h4;clear h4 HBu;have Pz:Hid (Of N w0 w4 c a q Z { s with V:=s.V.set n r2,B:=s.B+am} L b o):=Za ((Px.out.drop ZJ).drop ZJ);have y1:w4.cell? ⟨zb,1,none⟩=some (.int .i64 u.st):=(Px.out.blkAt (r:=N+2) ZJ Ze Ug).cell 1;have k1:=Of.k1 Pz.out HN.out
       by_cases h2:u.st=2
       ·have d2:(u.st==2)=true:=by simp [h2]
        have x24:=Eg.x24 Px.out;have mY:cm c s o L=L:=by rw [mI.out.2]; unfold wX; rw [HV.out.2.2,if_neg Ze,XH]
        have TW:Hid (Wp c s o=(Fo s o.kd o.ix (-1),MZ c s o.ix)∧cm c s o L=L):=Za ⟨mI.out.1,mY⟩;have Ww:Hid (MZ c s o.ix= { s with V:=s.V.set n r2,B:=s.B+am,F:=s.F++[o.ix]}):=Za (by rw [HS.out,if_pos h2]);have nc:=Za (HF6.out h2);clear mY h2 HS HF6 mI Px;go_wp2_with fail;refine wqT 7 ?_;simp only [qT,qD];iterate 7 (go_big_quiet_step ((intros; rfl)))
        refine Xx ?_;intro _ JB;obtain ⟨nr,Xh⟩:=JB;subst Xh;clear k1 x24 y1;have Wv:Hid (Zj Zb 128 #[.pointer (some ⟨a.n,0,none⟩),.int .i64 0,.int .i64 o.ix] (w4.drewN nr) fun e w'=>(∃r,e= .returned (.int .i64 r))∧Of N w0 w' c a q Z (MZ c s o.ix) L b o):=Za (by
         have hx:=Eg.drewN Pz.out nr;obtain ⟨X,hX,Uf,hh,hK,_⟩:=Eg.open hx;refine (hh.lpush hX Uf 0 o.ix).mono fun e w' ⟨he,h1⟩=>⟨⟨_,he⟩,?_⟩
         have h2:=hK _ _ _ h1 rfl rfl;have e1:pushF (c 1).toNat s.F 0 o.ix=s.F++[o.ix]:=if_pos ⟨rfl,by have:=nc.out; omega⟩;have e2:pushV (c 1).toNat s.W 0 o.ix=s.W:=if_neg ZI;rw [Ww.out];simp only [e1,e2] at h2;exact h2)
        clear Pz;go_wp2_with fail;refine Wv.out.mono ?_;rintro e w13 ⟨⟨r13,rfl⟩,kL⟩;have HD:=Za kL;have HE:=TW;clear kL Wv TW Ww HV HC nc HR yi;have VJ:=Za (Kx HD.out HN.out);have kY:=Of.k1 HD.out HN.out;go_wp2_with (first | (refine Zn rfl 37 _ rfl b rfl 37 _ (0,0) _ VJ.out ZV rfl QL ?_));refine (DT (N:=N+2) HD.out nw.out o o.ix (-1)).mono ?_;rintro e w9 ⟨rfl,h9⟩;have H9:Hid (Of N w0 w9 c a q Z (MZ c s o.ix) L b o):=Za h9;have VG:=Za (V6 h9 HN.out);clear h9 VJ HD kY;go_wp2_with (first | (refine Zo rfl _ _ _ rfl (b+1) (Zw (Bo o.kd o.ix (-1) s.bk s.ep)) rfl rfl 42 _ VG.out YS rfl (YH _) ?_));exact ZL (v:= .agg (Zw (Bo o.kd o.ix (-1) s.bk s.ep))) (ZO (fn:=Tryz.f86) rfl _ _ (b+1) 42 _ (0,0) _ rfl (Z6 _ _ _ _ _ _ VG.out) Yb rfl YS) rfl (Zh JW KU)
       ·have d2:(u.st==2)=false:=by simp [h2]
        have Ww:Hid (MZ c s o.ix= { s with V:=s.V.set n r2,B:=s.B+am}):=Za (by rw [HS.out,if_neg h2]);clear HS
        by_cases h5:u.st=5
        ·have d5:(u.st==5)=true:=by simp [h5]
         have mY:cm c s o L=L++[(r2.wd,o.ix)]:=by rw [mI.out.2]; unfold wX; rw [HV.out.2.2,if_pos h5,HR.out.1]
         have TW:Hid (Wp c s o=(Fo s o.kd o.ix (-1),MZ c s o.ix)∧cm c s o L=L++[(r2.wd,o.ix)]):=Za ⟨mI.out.1,mY⟩;have hvk:=HC.out.2.1.vok u (QM HV.out.2.1);have hsi:=NJ (v:=u) (e:=s.ep) (c:=c) HR.out.2.1;have ei:r2.wd=max u.wd (s.ep+c 11):=by rw [←HR.out.1]; exact hsi.2.2.2.1
         have ta:=hvk.s5 h5;have aG:=HC.out.2.1.ep0;have vf:=HC.out.2.1.ep1;have he2:=HC.out.2.1.bk1;have aK:=HC.out.2.2.1;have Wd:=HC.out.1.gc.sd0;have aO:=HC.out.1.gc.sd1;have yd:Hid (∀m,Zj Zb 129 #[.pointer (some ⟨q.e,24,none⟩),.int .i64 o.ix,.agg (Zd r2)] (w4.drewN m) fun e w'=>e= .returned (.tuple #[])∧Of N w0 w' c a q Z (MZ c s o.ix) (L++[(r2.wd,o.ix)]) b o):=Za (fun m=>by
          have:=oA (Eg.drewN Pz.out m) (i:=o.ix) (v:=r2) Ze Ze HC.out.2.2.2.2;rw [Ww.out];exact this)
         have nb:=Za (Px.out.blkAt (r:=N+3) ZJ Ze xput_same);clear mY hvk hsi ei ta aG vf he2 aK Wd aO Ww mI Px Pz h5 h2;go_wp2_with fail;refine wqT 6 ?_;simp only [qT,qD];iterate 5 (go_big_quiet_step ((intros; rfl)))
         refine Jw 63 _ zs 63 (Zd r2) _ rfl rfl rfl (fun w' h=>by obtain ⟨m,rfl⟩:=h; exact nb.out) Zr rfl Ym ?_;simp only [qB];refine Xx ?_;intro _ JB;obtain ⟨nr,Xh⟩:=JB;subst Xh;clear k1 y1 nb;go_wp2_with fail;refine (yd.out nr).mono ?_;rintro e w13 ⟨rfl,kL⟩;have HD:=Za kL;have HE:=TW;clear kL yd TW HV HC HR yi HF6;have VJ:=Za (Kx HD.out HN.out);have kY:=Of.k1 HD.out HN.out;go_wp2_with (first | (refine Zn rfl 37 _ rfl b rfl 37 _ (0,0) _ VJ.out ZV rfl QL ?_));refine (DT (N:=N+2) HD.out nw.out o o.ix (-1)).mono ?_;rintro e w9 ⟨rfl,h9⟩;have H9:Hid (Of N w0 w9 c a q Z (MZ c s o.ix) (L++[(r2.wd,o.ix)]) b o):=Za h9;have VG:=Za (V6 h9 HN.out);clear h9 VJ HD kY;go_wp2_with (first | (refine Zo rfl _ _ _ rfl (b+1) (Zw (Bo o.kd o.ix (-1) s.bk s.ep)) rfl rfl 42 _ VG.out YS rfl (YH _) ?_));exact ZL (v:= .agg (Zw (Bo o.kd o.ix (-1) s.bk s.ep))) (ZO (fn:=Tryz.f86) rfl _ _ (b+1) 42 _ (0,0) _ rfl (Z6 _ _ _ _ _ _ VG.out) Yb rfl YS) rfl (Zh JW KU)
        ·have d5:(u.st==5)=false:=by simp [h5]
         have mY:cm c s o L=L:=by rw [mI.out.2]; unfold wX; rw [HV.out.2.2,if_neg h5,XH]
         have TW:Hid (Wp c s o=(Fo s o.kd o.ix (-1),MZ c s o.ix)∧cm c s o L=L):=Za ⟨mI.out.1,mY⟩;have HD:Hid (Of N w0 w4 c a q Z (MZ c s o.ix) L b o):=Za (by rw [Ww.out]; exact Pz.out);clear mY Ww mI Px Pz h5 h2;have HE:=TW;clear TW HV HC HR yi HF6;have VJ:=Za (Kx HD.out HN.out);have kY:=Of.k1 HD.out HN.out;go_wp2_with (first | (refine Zn rfl 37 _ rfl b rfl 37 _ (0,0) _ VJ.out ZV rfl QL ?_));refine (DT (N:=N+2) HD.out nw.out o o.ix (-1)).mono ?_;rintro e w9 ⟨rfl,h9⟩;have H9:Hid (Of N w0 w9 c a q Z (MZ c s o.ix) L b o):=Za h9;have VG:=Za (V6 h9 HN.out);clear h9 VJ HD kY;go_wp2_with (first | (refine Zo rfl _ _ _ rfl (b+1) (Zw (Bo o.kd o.ix (-1) s.bk s.ep)) rfl rfl 42 _ VG.out YS rfl (YH _) ?_));exact ZL (v:= .agg (Zw (Bo o.kd o.ix (-1) s.bk s.ep))) (ZO (fn:=Tryz.f86) rfl _ _ (b+1) 42 _ (0,0) _ rfl (Z6 _ _ _ _ _ _ VG.out) Yb rfl YS) rfl (Zh JW KU)
      ·have dk:(cd != 0)=true:=by simp [h0]
       have TW:Hid (Wp c s o=(Ge s o.kd cd,s)∧cm c s o L=L):=Za ⟨fQ yi.out h0,by unfold cm; rw [yi.out,if_neg h0]⟩;have HD:Hid (Of N w0 wc c a q Z s L b o):=Za ((MX.out.drop ZJ).drop ZJ);have HE:=TW;clear TW HV HC HR yi HF6 MX h0;have VJ:=Za (Kx HD.out HN.out);go_wp2_with (first | (refine Zn rfl 37 _ rfl b rfl 37 _ (0,0) _ VJ.out ZV rfl QL ?_));refine (Vw (N:=N+2) HD.out HT.out o cd).mono ?_;rintro e w9 ⟨rfl,h9⟩;have H9:Hid (Of N w0 w9 c a q Z s L b o):=Za h9;have VG:=Za (V6 h9 HN.out);clear h9 VJ HD;go_wp2_with (first | (refine Zo rfl _ _ _ rfl (b+1) (Zw (VX o.kd cd s.bk s.ep)) rfl rfl 42 _ VG.out YS rfl (YH _) ?_));exact ZL (v:= .agg (Zw (VX o.kd cd s.bk s.ep))) (ZO (fn:=Tryz.f86) rfl _ _ (b+1) 42 _ (0,0) _ rfl (Z6 _ _ _ _ _ _ VG.out) Yb rfl YS) rfl (Zh JW KU)
end
end
section
open Go Go.RowKit Go.Deep
section
variable {N:Nat} {w0:DR} {w w' w1:Zc} {c:Nat→Int} {a:Pl} {q:Ql} {Z:Nat→Zc→(Nat→Prop)→Prop} {s s':Sg} {L L':List QT} {k:Nat}
theorem oh {o:Oq}{kk:Int}(h:sO c s (o.ix,o.tg)=kk)(hk:kk≠0) :cT c s o=(Ge s o.kd kk,s):=by unfold cT; rw [h,if_neg hk]
theorem uC {o:Oq}(h:sO c s (o.ix,o.tg)=0) :cT c s o=(Fo s o.kd o.ix (-1),{ s with mg:=s.mg++[(o.ix,o.tg)]}):=by unfold cT; rw [if_pos h]
theorem qy {o:Oq}{kk:Int}(h:vU c s ⟨o.ix,o.am⟩=kk)(hk:kk≠0) :cZ c s o=(Ge s o.kd kk,s):=by unfold cZ; rw [h,if_neg hk]
theorem vV {o:Oq}(h:vU c s ⟨o.ix,o.am⟩=0) :cZ c s o=(Fo s o.kd o.ix (-1),{ s with pt:=s.pt++[⟨o.ix,o.am⟩]}):=by unfold cZ; rw [if_pos h]
theorem Eg.all (h:Eg N w0 w c a q Z s L) :Zj Zb 55 #[.pointer (some ⟨a.r,0,none⟩)] w fun e w'=> ∃v,e= .returned v∧Eg (N+1) w0 w' c a q (ZD Z N (YK 63 7 v s.V.length (XD s.V))) s L∧Zs w.heap.size w w':=by
 obtain ⟨X,hX,Uf,hh,_,hK,_⟩:=h.open;refine (hh.all hX Uf).mono fun e w' ⟨v,he,h1,h2⟩=>⟨v,he,hK _ _ _ _ h1 stays_row rfl rfl,h2⟩
theorem Eg.lst (h:Eg N w0 w c a q Z s L){r:Nat}(UP:11≤r)(hr:r < N){v:Value}{V:List Yd}(hx:Z r=YK 63 7 v V.length (XD V)) : ∃b cp,v= .slice b V.length cp∧Fm w (fun _=>False) b V:=by
 have ho:=h.row UP hr hx;obtain ⟨b,cp,rfl,_⟩:=UB ho;exact ⟨b,cp,rfl,EY ho (fun _ _ h=>h)⟩
theorem Cj (hc:GE c)(hi:Inv c k s)(hk:k≤1000000)(h:Eg N w0 w c a q Z s L)(o:Oq)(ho:Kk o) :Zj Zb 87 #[.pointer (some ⟨q.e,0,none⟩),.agg (ZM o)] w (tS N w0 c a q Z (cT c s o) L):=by
 have hN:=h.low;have hO:=DA h o;have HT:=Za (hi.tm hc hk);have HN:=Za hN;have HC:=Za (Zh hc (Zh hi (Zh hk ho)));clear hc hi hk ho hN h;go_enter Tryz.func87,Tryz.ntmps87;go_upto_region 1 with (fail);generalize hW:(w.alloc (.cells (ZM o) 37)).alloc (.cells _ 42)=W;have eW:(w.alloc (.cells (ZM o) 37)).alloc (.cells (Zw Gg) 42)=W:=hW;rw [eW] at hO;generalize w.heap.size=b at*;have HO:=Za hO;clear hW eW hO;obtain ⟨kk,po⟩ : ∃kk,DO s.V (o.ix,o.tg) (c 6)=kk:=⟨_,rfl⟩;have HK:=Za po;clear po;refine Pu (fun w'=>Of N w0 w' c a q Z s L b o) 3 [0,1,2,3,4,6,7,8,9,10,11,12,13] (?_) ?_
 ·exact Va HO.out
 refine Kg ?_;show ZW _ _ _ _ [_,_,_,_,_,_,_,_,_,_,_,_,_] _;refine BN ?_;refine rI ?_;refine Qe ?_;refine GN ?_;refine ZfB ?_;refine Qe ?_;refine GN ?_;refine YJ _ _ ⟨b,2,none⟩ (.int .i64 o.tg) rfl rfl rfl (fun w h=>by simp [go_sem,h]) (fun w h=>Of.k2 h HN.out) ?_;refine Qe ?_;refine DP ?_;refine ZfC ?_;refine Qc ?_;have TP:Hid (Of N w0 W.drew c a q Z s L b o):=Za (Va HO.out);clear HO;generalize W.drew=V at*;refine EE ?_;refine JZ #[.pointer (some ⟨a.r,0,none⟩)] Tryz.call55 ((Eg.all TP.out).mono ?_);rintro e w2 ⟨v,rfl,h2,GJ⟩;have N4:Hid (Of N w0 w2 c a q Z s L b o):=Za (Eg.below TP.out GJ);have HRq:Hid (Zj Zb 130 #[v,.int .i64 o.ix,.int .i64 o.tg,.agg (Zk c)] w2 fun e w'=>e= .returned (.int .i64 kk)∧Zs w2.heap.size w2 w'):=Za (by
  obtain ⟨ab,cp,rfl,hl⟩:=h2.lst (r:=N+2) ZJ Ze xput_same;have:=DE (fun _=>False) ab s.V cp (o.ix,o.tg) c w2 hl HC.out.2.1.fits;rw [HK.out] at this;exact this)
 refine ⟨_,rfl,N4.out,?_⟩;clear h2 GJ TP;refine hfO (i:=14) ?_;refine JG ?_;refine JZ #[v,.int .i64 o.ix,.int .i64 o.tg,.agg (Zk c)] Tryz.call130 ((HRq.out).mono ?_);rintro e w3 ⟨rfl,hb3⟩;have PX:Hid (Of N w0 w3 c a q Z s L b o):=Za (Eg.below N4.out hb3);refine ⟨_,rfl,PX.out,?_⟩;clear HRq N4 hb3;refine JG ?_;refine FX (fun w'=>Of N w0 w' c a q Z s L b o) (m:=1) (f:=0) [15] (?_) ?_
 ·exact PX.out
 refine Kg ?_;refine FV ?_;refine GN ?_;refine Qc ?_;refine ⟨by kernel_rfl,Yr ?_⟩;refine JG ?_
 by_cases h0:kk=0
 ·subst h0;have d0:((0:Int) != 0)=false:=rfl;go_wp2_with fail
  by_cases h6:c 1≤(s.mg.length:Int)
  ·have HE:Hid (cT c s o=(Ge s o.kd 6,s)):=Za (oh (by unfold sO; rw [HK.out,if_neg ZI,if_pos h6]) YU);have Wv:Hid (∀wx,Of N w0 wx c a q Z s L b o→Zj Zb 131 #[.pointer (some ⟨q.d,0,none⟩),.slice (some ⟨wx.heap.size,0,none⟩) 1 1] (wx.alloc (.cells (cellsP (o.ix,o.tg)) 73)) fun e w'=>e= .returned (.int .i64 0)∧Of N w0 w' c a q Z s L b o):=Za (fun wx hx=>Eg.mfull hx (o.ix,o.tg) h6);clear h6 HC HK;refine Pu (fun w'=>Blk w' q.e 107 (Uw c a q)∧Blk w' b 37 (ZM o)) 3 [0,1,2,3,4,5,6,7,8,9] (?_) ?_
   ·exact ⟨(Va PX.out).blk,Kx (Va PX.out) HN.out⟩
   refine Kg ?_;refine gK ?_;refine BN ?_;refine Zcq ?_;refine Qe ?_;refine GN ?_;refine YJ _ _ ⟨b,1,none⟩ (.int .i64 o.ix) rfl rfl rfl (fun w h=>by simp [go_sem,h]) (fun w h=>h.2.cell 1) ?_;refine Qe ?_;refine GN ?_;refine YJ _ _ ⟨b,2,none⟩ (.int .i64 o.tg) rfl rfl rfl (fun w h=>by simp [go_sem,h]) (fun w h=>h.2.cell 2) ?_;refine Qe ?_;refine GN ?_;refine Qc ?_;have Pz:Hid (Of N w0 w3.drew c a q Z s L b o):=Za (Va PX.out);clear PX;generalize w3.drew=V4 at*;refine hfO (i:=10) ?_;refine YD rfl rfl (Jy 48 73 _ (.agg #[.int .i64 0,.int .i64 0]) (.int .i64 o.ix) (.int .i64 o.tg) rfl rfl XA Ye ?_);refine ⟨⟨(Eg.blk Pz.out).alloc _,(Kx Pz.out HN.out).alloc _⟩,?_⟩;refine hfO (i:=11) ?_;refine JG ?_;refine JZ #[.pointer (some ⟨q.d,0,none⟩),.slice (some ⟨V4.heap.size,0,none⟩) 1 1] Tryz.call131 ((Wv.out V4 Pz.out).mono ?_);rintro e w5 ⟨rfl,h5⟩;refine ⟨_,rfl,⟨Eg.blk h5,Kx h5 HN.out⟩,?_⟩;have HD:=Za h5;clear h5 Wv Pz;refine JG ?_;refine FX (fun w'=>Blk w' q.e 107 (Uw c a q)∧Blk w' b 37 (ZM o)) (m:=1) (f:=0) [12] (?_) ?_
   ·exact ⟨Eg.blk HD.out,Kx HD.out HN.out⟩
   refine Kg ?_;refine FV ?_;refine GN ?_;refine Qc ?_;refine ⟨by kernel_rfl,Yr ?_⟩;refine JG ?_;have VJ:=Za (Kx HD.out HN.out);go_wp2_with (first | (refine Zn rfl 37 _ rfl b rfl 37 _ (0,0) _ VJ.out ZV rfl QL ?_));refine (Vw (N:=N+2) HD.out HT.out o 6).mono ?_;rintro e w9 ⟨rfl,h9⟩;have H9:Hid (Of N w0 w9 c a q Z s L b o):=Za h9;have VG:=Za (V6 h9 HN.out);clear h9 VJ HD;go_wp2_with (first | (refine Zo rfl _ _ _ rfl (b+1) (Zw (VX o.kd 6 s.bk s.ep)) rfl rfl 42 _ VG.out YS rfl (YH _) ?_));exact ZL (v:= .agg (Zw (VX o.kd 6 s.bk s.ep))) (ZO (fn:=Tryz.f87) rfl _ _ (b+1) 42 _ (0,0) _ rfl (Z6 _ _ _ _ _ _ VG.out) Yb rfl YS) rfl (Zh JW KU)
  ·have HE:Hid (cT c s o=(Fo s o.kd o.ix (-1),{ s with mg:=s.mg++[(o.ix,o.tg)]})):=Za (uC (by unfold sO; rw [HK.out,if_neg ZI,if_neg h6]));have Wv:Hid (∀wx,Of N w0 wx c a q Z s L b o→Zj Zb 131 #[.pointer (some ⟨q.d,0,none⟩),.slice (some ⟨wx.heap.size,0,none⟩) 1 1] (wx.alloc (.cells (cellsP (o.ix,o.tg)) 73)) fun e w'=>e= .returned (.int .i64 1)∧Of N w0 w' c a q Z { s with mg:=s.mg++[(o.ix,o.tg)]} L b o):=Za (fun wx hx=>Eg.mpush hx (o.ix,o.tg) Ze);have nw:Hid (Tm c { s with mg:=s.mg++[(o.ix,o.tg)]}):=Za ⟨HT.out.b0,HT.out.b1,HT.out.l,HT.out.q⟩;clear h6 HC HK;refine Pu (fun w'=>Blk w' q.e 107 (Uw c a q)∧Blk w' b 37 (ZM o)) 3 [0,1,2,3,4,5,6,7,8,9] (?_) ?_
   ·exact ⟨(Va PX.out).blk,Kx (Va PX.out) HN.out⟩
   refine Kg ?_;refine gK ?_;refine BN ?_;refine Zcq ?_;refine Qe ?_;refine GN ?_;refine YJ _ _ ⟨b,1,none⟩ (.int .i64 o.ix) rfl rfl rfl (fun w h=>by simp [go_sem,h]) (fun w h=>h.2.cell 1) ?_;refine Qe ?_;refine GN ?_;refine YJ _ _ ⟨b,2,none⟩ (.int .i64 o.tg) rfl rfl rfl (fun w h=>by simp [go_sem,h]) (fun w h=>h.2.cell 2) ?_;refine Qe ?_;refine GN ?_;refine Qc ?_;have Pz:Hid (Of N w0 w3.drew c a q Z s L b o):=Za (Va PX.out);clear PX;generalize w3.drew=V4 at*;refine hfO (i:=10) ?_;refine YD rfl rfl (Jy 48 73 _ (.agg #[.int .i64 0,.int .i64 0]) (.int .i64 o.ix) (.int .i64 o.tg) rfl rfl XA Ye ?_);refine ⟨⟨(Eg.blk Pz.out).alloc _,(Kx Pz.out HN.out).alloc _⟩,?_⟩;refine hfO (i:=11) ?_;refine JG ?_;refine JZ #[.pointer (some ⟨q.d,0,none⟩),.slice (some ⟨V4.heap.size,0,none⟩) 1 1] Tryz.call131 ((Wv.out V4 Pz.out).mono ?_);rintro e w5 ⟨rfl,h5⟩;refine ⟨_,rfl,⟨Eg.blk h5,Kx h5 HN.out⟩,?_⟩;have HD:=Za h5;clear h5 Wv Pz;refine JG ?_;refine FX (fun w'=>Blk w' q.e 107 (Uw c a q)∧Blk w' b 37 (ZM o)) (m:=1) (f:=0) [12] (?_) ?_
   ·exact ⟨Eg.blk HD.out,Kx HD.out HN.out⟩
   refine Kg ?_;refine FV ?_;refine GN ?_;refine Qc ?_;refine ⟨by kernel_rfl,Yr ?_⟩;refine JG ?_;have VJ:=Za (Kx HD.out HN.out);have kY:=Of.k1 HD.out HN.out;go_wp2_with (first | (refine Zn rfl 37 _ rfl b rfl 37 _ (0,0) _ VJ.out ZV rfl QL ?_));refine (DT (N:=N+2) HD.out nw.out o o.ix (-1)).mono ?_;rintro e w9 ⟨rfl,h9⟩;have H9:Hid (Of N w0 w9 c a q Z { s with mg:=s.mg++[(o.ix,o.tg)]} L b o):=Za h9;have VG:=Za (V6 h9 HN.out);clear h9 VJ HD kY;go_wp2_with (first | (refine Zo rfl _ _ _ rfl (b+1) (Zw (Bo o.kd o.ix (-1) s.bk s.ep)) rfl rfl 42 _ VG.out YS rfl (YH _) ?_));exact ZL (v:= .agg (Zw (Bo o.kd o.ix (-1) s.bk s.ep))) (ZO (fn:=Tryz.f87) rfl _ _ (b+1) 42 _ (0,0) _ rfl (Z6 _ _ _ _ _ _ VG.out) Yb rfl YS) rfl (Zh JW KU)
 ·have HE:Hid (cT c s o=(Ge s o.kd kk,s)):=Za (oh (by unfold sO; rw [HK.out,if_pos h0]) h0);have d0:(kk != 0)=true:=by simp [h0]
  clear HC HK h0;have HD:=PX;clear PX;have VJ:=Za (Kx HD.out HN.out);go_wp2_with (first | (refine Zn rfl 37 _ rfl b rfl 37 _ (0,0) _ VJ.out ZV rfl QL ?_));refine (Vw (N:=N+2) HD.out HT.out o kk).mono ?_;rintro e w9 ⟨rfl,h9⟩;have H9:Hid (Of N w0 w9 c a q Z s L b o):=Za h9;have VG:=Za (V6 h9 HN.out);clear h9 VJ HD;go_wp2_with (first | (refine Zo rfl _ _ _ rfl (b+1) (Zw (VX o.kd kk s.bk s.ep)) rfl rfl 42 _ VG.out YS rfl (YH _) ?_));exact ZL (v:= .agg (Zw (VX o.kd kk s.bk s.ep))) (ZO (fn:=Tryz.f87) rfl _ _ (b+1) 42 _ (0,0) _ rfl (Z6 _ _ _ _ _ _ VG.out) Yb rfl YS) rfl (Zh JW KU)
end
end
section
open Go Go.RowKit Go.Deep
section
variable {N:Nat} {w0:DR} {w w' w1:Zc} {c:Nat→Int} {a:Pl} {q:Ql} {Z:Nat→Zc→(Nat→Prop)→Prop} {s s':Sg} {L L':List QT} {k:Nat}
theorem kA (hc:GE c)(hi:Inv c k s)(hk:k≤1000000)(h:Eg N w0 w c a q Z s L)(o:Oq)(ho:Kk o) :Zj Zb 88 #[.pointer (some ⟨q.e,0,none⟩),.agg (ZM o)] w (tS N w0 c a q Z (cZ c s o) L):=by
 have hN:=h.low;have hO:=DA h o;have HT:=Za (hi.tm hc hk);have HN:=Za hN;have HC:=Za (Zh hc (Zh hi (Zh hk ho)));clear hc hi hk ho hN h;go_enter Tryz.func88,Tryz.ntmps88;go_upto_region 1 with (fail);generalize hW:(w.alloc (.cells (ZM o) 37)).alloc (.cells _ 42)=W;have eW:(w.alloc (.cells (ZM o) 37)).alloc (.cells (Zw Gg) 42)=W:=hW;rw [eW] at hO;generalize w.heap.size=b at*;have HO:=Za hO;clear hW eW hO;obtain ⟨r,hr⟩ : ∃r:Rq,(⟨o.ix,o.am⟩ :Rq)=r:=⟨_,rfl⟩;have hrc: #[ZR .i64 o.ix,ZR .u64 o.am]=ZA r:=by rw [←hr]; rfl
 obtain ⟨kk,po⟩ : ∃kk,Ob s.V r=kk:=⟨_,rfl⟩;have HK:=Za (Zh po hr);have k1:=Of.k1 HO.out HN.out;have k3:=Of.k3 HO.out HN.out;have HB:=Za (Eg.box HO.out (ZA r) 75);have HRC:=Za hrc;clear po hr hrc;go_wp2_with (first | (refine Zo rfl _ _ _ rfl W.heap.size (ZA r) rfl (by rw [←HRC.out]; rfl) 75 _ (ZG W _) Qy rfl (Ky _) ?_; rw [Zu]));clear k1 k3 HO HRC;generalize W.heap.size=rb at*;generalize W.alloc (.cells (ZA r) 75)=W1 at*;refine JG ?_;refine Pu (fun w'=>Eg (N+2+1) w0 w' c a q (ZD (ZD (ZD Z N (YW b 37 (ZM o))) (N+1) (YW (b+1) 42 (Zw Gg))) (N+2) (YW rb 75 (ZA r))) s L) 3 [0,1,2,3,4,6] (?_) ?_
 ·exact HB.out.drew
 refine Kg ?_;refine Is ?_;refine BN ?_;refine rI ?_;refine Qe ?_;refine Jw 75 _ rb 75 (ZA r) _ rfl rfl rfl (fun w h=>VZ h (r:=N+2) ZJ Ze xput_same) Z3 rfl Qy ?_;refine Qe ?_;refine Qc ?_;have TO:=Za HB.out.drew;clear HB;generalize W1.drew=V at*;refine EE ?_;refine JZ #[.pointer (some ⟨a.r,0,none⟩)] Tryz.call55 ((Eg.all TO.out).mono ?_);rintro e w2 ⟨v,rfl,h2,GJ⟩;have Hh:=Za (TO.out.below GJ);have HRq:Hid (Zj Zb 132 #[v,.agg (ZA r)] w2 fun e w'=>e= .returned (.int .i64 kk)∧Zs w2.heap.size w2 w'):=Za (by
  obtain ⟨ab,cp,rfl,hl⟩:=h2.lst (r:=N+2+1) ZJ Ze xput_same;have:=Cg (fun _=>False) ab cp s.V r w2 hl;rw [HK.out.1] at this;exact this)
 refine ⟨_,rfl,Hh.out,?_⟩;clear h2 GJ TO;refine hfO (i:=7) ?_;refine JG ?_;refine JZ #[v,.agg (ZA r)] Tryz.call132 ((HRq.out).mono ?_);rintro e w3 ⟨rfl,hb3⟩;have MX:=Za (Hh.out.below hb3);refine ⟨_,rfl,MX.out,?_⟩;clear HRq Hh hb3;refine JG ?_;refine FX (fun w'=>Eg (N+2+1) w0 w' c a q (ZD (ZD (ZD Z N (YW b 37 (ZM o))) (N+1) (YW (b+1) 42 (Zw Gg))) (N+2) (YW rb 75 (ZA r))) s L) (m:=1) (f:=0) [8] (?_) ?_
 ·exact MX.out
 refine Kg ?_;refine FV ?_;refine GN ?_;refine Qc ?_;refine ⟨by kernel_rfl,Yr ?_⟩;refine JG ?_
 by_cases h0:kk=0
 ·subst h0;have d0:((0:Int) != 0)=false:=rfl;go_wp2_with fail
  by_cases h6:c 1≤(s.pt.length:Int)
  ·have HE:Hid (cZ c s o=(Ge s o.kd 6,s)):=Za (qy (by unfold vU; rw [HK.out.2,HK.out.1,if_neg ZI,if_pos h6]) YU);have Wv:Hid (∀wx,Eg (N+2+1) w0 wx c a q (ZD (ZD (ZD Z N (YW b 37 (ZM o))) (N+1) (YW (b+1) 42 (Zw Gg))) (N+2) (YW rb 75 (ZA r))) s L→Zj Zb 133 #[.pointer (some ⟨q.q,0,none⟩),.slice (some ⟨wx.heap.size,0,none⟩) 1 1] (wx.alloc (.cells (ZA r) 75)) fun e w'=>e= .returned (.int .i64 0)∧Eg (N+2+1) w0 w' c a q (ZD (ZD (ZD Z N (YW b 37 (ZM o))) (N+1) (YW (b+1) 42 (Zw Gg))) (N+2) (YW rb 75 (ZA r))) s L):=Za (fun wx hx=>Eg.tfull hx r h6);clear h6 HC HK;refine Pu (fun w'=>Blk w' q.e 107 (Uw c a q)∧Blk w' rb 75 (ZA r)) 3 [0,1,2,3,4,5] (?_) ?_
   ·exact ZgH
   refine Kg ?_;refine Is ?_;refine BN ?_;refine Zcp ?_;refine Qe ?_;refine Jw 75 _ rb 75 (ZA r) _ rfl rfl rfl (fun w h=>h.2) Z3 rfl Qy ?_;refine Qe ?_;refine Qc ?_;have Px:=Za MX.out.drew;clear MX;generalize w3.drew=V4 at*;refine Mb ?_;refine YD rfl rfl (Jy 49 75 _ (.agg #[.int .i64 0,.int .u64 0]) (.int .i64 r.ix) (.int .u64 r.am) rfl rfl Xq Ye ?_);refine ⟨⟨Px.out.blk.alloc _,(Px.out.blkAt (r:=N+2) ZJ Ze xput_same).alloc _⟩,?_⟩;refine hfO (i:=7) ?_;refine JG ?_;refine JZ #[.pointer (some ⟨q.q,0,none⟩),.slice (some ⟨V4.heap.size,0,none⟩) 1 1] Tryz.call133 ((Wv.out V4 Px.out).mono ?_);rintro e w5 ⟨rfl,h5⟩;refine ⟨_,rfl,⟨Eg.blk h5,VZ h5 (r:=N+2) ZJ Ze xput_same⟩,?_⟩;have TV:=Za h5;clear h5 Wv Px;refine JG ?_;refine FX (fun w'=>Blk w' q.e 107 (Uw c a q)∧Blk w' rb 75 (ZA r)) (m:=1) (f:=0) [8] (?_) ?_
   ·exact zu
   refine Kg ?_;refine FV ?_;refine GN ?_;refine Qc ?_;refine ⟨by kernel_rfl,Yr ?_⟩;refine JG ?_;have HD:Hid (Of N w0 w5 c a q Z s L b o):=Za (TV.out.drop ZJ);clear TV;have VJ:=Za (Kx HD.out HN.out);go_wp2_with (first | (refine Zn rfl 37 _ rfl b rfl 37 _ (0,0) _ VJ.out ZV rfl QL ?_));refine (Vw (N:=N+2) HD.out HT.out o 6).mono ?_;rintro e w9 ⟨rfl,h9⟩;have H9:Hid (Of N w0 w9 c a q Z s L b o):=Za h9;have VG:=Za (V6 h9 HN.out);clear h9 VJ HD;go_wp2_with (first | (refine Zo rfl _ _ _ rfl (b+1) (Zw (VX o.kd 6 s.bk s.ep)) rfl rfl 42 _ VG.out YS rfl (YH _) ?_));exact ZL (v:= .agg (Zw (VX o.kd 6 s.bk s.ep))) (ZO (fn:=Tryz.f88) rfl _ _ (b+1) 42 _ (0,0) _ rfl (Z6 _ _ _ _ _ _ VG.out) Yb rfl YS) rfl (Zh JW KU)
  ·have HE:Hid (cZ c s o=(Fo s o.kd o.ix (-1),{ s with pt:=s.pt++[r]})):=Za (by rw [←HK.out.2]; exact vV (by unfold vU; rw [HK.out.2,HK.out.1,if_neg ZI,if_neg h6]));have Wv:Hid (∀wx,Eg (N+2+1) w0 wx c a q (ZD (ZD (ZD Z N (YW b 37 (ZM o))) (N+1) (YW (b+1) 42 (Zw Gg))) (N+2) (YW rb 75 (ZA r))) s L→Zj Zb 133 #[.pointer (some ⟨q.q,0,none⟩),.slice (some ⟨wx.heap.size,0,none⟩) 1 1] (wx.alloc (.cells (ZA r) 75)) fun e w'=>e= .returned (.int .i64 1)∧Eg (N+2+1) w0 w' c a q (ZD (ZD (ZD Z N (YW b 37 (ZM o))) (N+1) (YW (b+1) 42 (Zw Gg))) (N+2) (YW rb 75 (ZA r))) { s with pt:=s.pt++[r]} L):=Za (fun wx hx=>Eg.tpush hx r Ze);have nw:Hid (Tm c { s with pt:=s.pt++[r]}):=Za ⟨HT.out.b0,HT.out.b1,HT.out.l,HT.out.q⟩;clear h6 HC HK;refine Pu (fun w'=>Blk w' q.e 107 (Uw c a q)∧Blk w' rb 75 (ZA r)) 3 [0,1,2,3,4,5] (?_) ?_
   ·exact ZgH
   refine Kg ?_;refine Is ?_;refine BN ?_;refine Zcp ?_;refine Qe ?_;refine Jw 75 _ rb 75 (ZA r) _ rfl rfl rfl (fun w h=>h.2) Z3 rfl Qy ?_;refine Qe ?_;refine Qc ?_;have Px:=Za MX.out.drew;clear MX;generalize w3.drew=V4 at*;refine Mb ?_;refine YD rfl rfl (Jy 49 75 _ (.agg #[.int .i64 0,.int .u64 0]) (.int .i64 r.ix) (.int .u64 r.am) rfl rfl Xq Ye ?_);refine ⟨⟨Px.out.blk.alloc _,(Px.out.blkAt (r:=N+2) ZJ Ze xput_same).alloc _⟩,?_⟩;refine hfO (i:=7) ?_;refine JG ?_;refine JZ #[.pointer (some ⟨q.q,0,none⟩),.slice (some ⟨V4.heap.size,0,none⟩) 1 1] Tryz.call133 ((Wv.out V4 Px.out).mono ?_);rintro e w5 ⟨rfl,h5⟩;refine ⟨_,rfl,⟨Eg.blk h5,VZ h5 (r:=N+2) ZJ Ze xput_same⟩,?_⟩;have TV:=Za h5;clear h5 Wv Px;refine JG ?_;refine FX (fun w'=>Blk w' q.e 107 (Uw c a q)∧Blk w' rb 75 (ZA r)) (m:=1) (f:=0) [8] (?_) ?_
   ·exact zu
   refine Kg ?_;refine FV ?_;refine GN ?_;refine Qc ?_;refine ⟨by kernel_rfl,Yr ?_⟩;refine JG ?_;have HD:Hid (Of N w0 w5 c a q Z { s with pt:=s.pt++[r]} L b o):=Za (TV.out.drop ZJ);clear TV;have VJ:=Za (Kx HD.out HN.out);have kY:=Of.k1 HD.out HN.out;go_wp2_with (first | (refine Zn rfl 37 _ rfl b rfl 37 _ (0,0) _ VJ.out ZV rfl QL ?_));refine (DT (N:=N+2) HD.out nw.out o o.ix (-1)).mono ?_;rintro e w9 ⟨rfl,h9⟩;have H9:Hid (Of N w0 w9 c a q Z { s with pt:=s.pt++[r]} L b o):=Za h9;have VG:=Za (V6 h9 HN.out);clear h9 VJ HD kY;go_wp2_with (first | (refine Zo rfl _ _ _ rfl (b+1) (Zw (Bo o.kd o.ix (-1) s.bk s.ep)) rfl rfl 42 _ VG.out YS rfl (YH _) ?_));exact ZL (v:= .agg (Zw (Bo o.kd o.ix (-1) s.bk s.ep))) (ZO (fn:=Tryz.f88) rfl _ _ (b+1) 42 _ (0,0) _ rfl (Z6 _ _ _ _ _ _ VG.out) Yb rfl YS) rfl (Zh JW KU)
 ·have HE:Hid (cZ c s o=(Ge s o.kd kk,s)):=Za (qy (by unfold vU; rw [HK.out.2,HK.out.1,if_pos h0]) h0);have d0:(kk != 0)=true:=by simp [h0]
  have HD:Hid (Of N w0 w3 c a q Z s L b o):=Za (MX.out.drop ZJ);clear HC HK h0 MX;have VJ:=Za (Kx HD.out HN.out);go_wp2_with (first | (refine Zn rfl 37 _ rfl b rfl 37 _ (0,0) _ VJ.out ZV rfl QL ?_));refine (Vw (N:=N+2) HD.out HT.out o kk).mono ?_;rintro e w9 ⟨rfl,h9⟩;have H9:Hid (Of N w0 w9 c a q Z s L b o):=Za h9;have VG:=Za (V6 h9 HN.out);clear h9 VJ HD;go_wp2_with (first | (refine Zo rfl _ _ _ rfl (b+1) (Zw (VX o.kd kk s.bk s.ep)) rfl rfl 42 _ VG.out YS rfl (YH _) ?_));exact ZL (v:= .agg (Zw (VX o.kd kk s.bk s.ep))) (ZO (fn:=Tryz.f88) rfl _ _ (b+1) 42 _ (0,0) _ rfl (Z6 _ _ _ _ _ _ VG.out) Yb rfl YS) rfl (Zh JW KU)
end
end
section
open Go Go.RowKit Go.Deep
theorem RR (f:Yd→Yd) : ∀(A B:List Nat) (V:List Yd),Hf f V (A++B)=Hf f (Hf f V A) B
 | [],_,_=>rfl
 | i::A,B,V=>RR f A B _
theorem Nd {f:Yd→Yd}{V:List Yd}{F:List Nat}{k i:Nat}(hk:F[k]?=some i) :Hf f V (F.take (k+1))=(Hf f V (F.take k)).set i (f ((Hf f V (F.take k)).getD i ZZ)):=by
 rw [YR,hk,Qt,RR]; rfl
theorem lu {F:List Nat}(hn:F.Nodup){k i:Nat}(hk:F[k]?=some i) :i ∉ F.take k:=fun h=>by
 have hd:F.drop k=i::F.drop (k+1):=List.drop_eq_getElem?_toList_append .. |>.trans (by rw [hk]; rfl);rw [←List.take_append_drop k F,List.nodup_append] at hn;exact hn.2.2 i h i (by rw [hd]; simp) rfl
theorem Nc {f:Yd→Yd}{V:List Yd}{F:List Nat}(hn:F.Nodup)(hF: ∀i ∈ F,i < V.length){k i:Nat}(hk:F[k]?=some i) :(Hf f V (F.take k)).getD i ZZ=V.getD i ZZ:=by
 rw [dB f _ _ (hn.sublist (List.take_sublist _ _)) (fun j hj=>hF j (ZK hj)),if_neg (lu hn hk)]
theorem RT {f:Yd→Yd}(hf: ∀v,Yo v→Yo (f v)∧(f v).bal=v.bal) : ∀(F:List Nat) (V:List Yd),(∀v ∈ V,Yo v)→(∀i ∈ F,i < V.length)→Fl V (Hf f V F)
 | [],V,h,_=>Fl.refl h
 | i::F,V,h,hF=>by
  have hi:=hF i ZI;have hv:V[i]?=some (V.getD i ZZ):=by rw [Zq,Zf hi]; rfl
  have h0:=hf _ (h _ (QM hv));have h1:Fl V (V.set i (f (V.getD i ZZ))):=(Fl.refl h).set hv h0.2 h0.1;have h2:=RT hf F (V.set i (f (V.getD i ZZ))) h1.2.2 (fun j hj=>by rw [Xt]; exact hF j LF);exact ⟨h2.1.trans h1.1,h2.2.1.trans h1.2.1,h2.2.2⟩
theorem Tl {V:List Yd}{i:Nat}(h:i < V.length) :V.set i (V.getD i ZZ)=V:=by
 rw [Zq,Zf h];exact List.set_getElem_self h
theorem kZ (e:Int)(v:Yd)(h:Yo v) :Yo (leaveV e v)∧(leaveV e v).bal=v.bal:=by
 unfold leaveV; split
 ·exact ⟨⟨h.1,rfl⟩,rfl⟩
 ·exact ⟨h,rfl⟩
theorem p6 (e:Int)(v:Yd)(h:v.st≠3) :leaveV e v=v:=if_neg fun hh=>h hh.1
theorem p5 {e:Int}{v:Yd}(h:v.st=3)(he:v.ex=e) :leaveV e v=NZ 3 v:=by
 unfold leaveV NZ;rw [if_pos ⟨h,he⟩,h]; rfl
section
variable {N:Nat} {w0:DR} {w w' w1:Zc} {c:Nat→Int} {a:Pl} {q:Ql} {Z:Nat→Zc→(Nat→Prop)→Prop} {s s':Sg} {L L':List QT} {k:Nat}
theorem oF (h:Eg N w0 w c a q Z s L){i:Nat}{ev:Int}(hev:(Lit.int .i64 ev).wf=true)(hi:i < s.V.length)(hf: ∀v ∈ s.V,Yo v)(ht:Zz s.V≤18446744073709551615) :
  Zj Zb 214 #[.pointer (some ⟨q.e,21,none⟩),.int .i64 ev,.slice (some ⟨w.heap.size,0,none⟩) 1 1] (w.alloc (.cells #[.int .i64 (i:Int)] 3)) fun e w'=>e= .returned (.tuple #[])∧Eg N w0 w' c a q Z { s with V:=s.V.set i (NZ ev (s.V.getD i ZZ))} L:=by
 have hN:=h.low;have h1:=h.box #[.int .i64 (i:Int)] 3;have h2:=h1.torow (r:=N) (k:=1) (n:=1) (xs:= [.int .i64 (i:Int)]) hN Ze xput_same rfl UH;rw [Xk] at h2;refine (yv h2 (r:=N) (I:= [(i:Int)]) hN Ze xput_same hev (fun j hj=>?_) hf ht ZI).mono fun e w' ⟨he,h3⟩=>⟨he,h3.drop hN⟩
 rw [List.mem_singleton] at hj;exact ⟨i,hj,hi⟩
theorem Eg.get (h:Eg N w0 w c a q Z s L){n:Nat}(hn:n < s.V.length) :Zj Zb 70 #[.pointer (some ⟨a.r,0,none⟩),.int .i64 (n:Int)] w fun e w'=>e= .returned (.tuple #[.agg (Zd (s.V.getD n ZZ)),.bool true])∧Zs w.heap.size w w':=by
 obtain ⟨X,hX,Uf,hh,_⟩:=h.open;exact hh.get_in Uf (by rw [Zq,Zf hn]; rfl)
theorem Zaw (h:Eg N w0 w c a q Z s L)(t:Tm c s)(hf: ∀v ∈ s.V,Yo v)(ht:Zz s.V≤18446744073709551615)(hl:s.V.length≤4096) :
  Zj Zb 209 #[.pointer (some ⟨q.e,0,none⟩)] w fun e w'=>e= .returned (.tuple #[])∧Eg N w0 w' c a q Z { s with V:=s.V.map (leaveV s.ep)} L:=by
 have hN:=h.low;obtain ⟨F,hF⟩ : ∃F,Lx s.V 3 s.V.length=F:=⟨_,rfl⟩;have HWi:=Za (yx h (st:=3) rfl Ze);rw [hF] at HWi;have hFn:F.Nodup:=by rw [←hF]; exact AI _ _ _
 have u3: ∀i ∈ F,i < s.V.length∧(s.V.getD i ZZ).st=3:=fun i hi=>by rw [←hF] at hi; exact Nw.1 hi
 have Mf:F.length≤4096:=by
  rw [←hF]; unfold Lx; exact Nat.le_trans (JX _ _) Ip
 have Ku:Hf (leaveV s.ep) s.V F=s.V.map (leaveV s.ep):=by rw [←hF]; exact uB _ _ _ (p6 s.ep)
 have ni:Hid (∀k,Fl s.V (Hf (leaveV s.ep) s.V (F.take k))):=Za fun k=>RT (kZ s.ep) _ _ hf fun i hi=>(u3 i (ZK hi)).1
 have HX:=Za (Zh hFn (Zh u3 (Zh Ku (Zh ht t))));have HN:=Za hN;clear h hf ht hl hN hF hFn u3 Ku t;go_enter Tryz.func209,Tryz.ntmps209;go_wp2_with fail;refine HWi.out.mono ?_;rintro e w2 ⟨v,rfl,h2,_⟩;obtain ⟨ia,cp,rfl⟩:=XC (h2.row (r:=N) HN.out Ze xput_same);obtain ⟨m,hm⟩ : ∃m,F.length=m:=⟨_,rfl⟩;have HM:=Za hm;rw [hm] at h2 Mf;have H2:=Za h2;rw [hm];clear HWi h2 hm;go_wp2_with fail;go_loopw [11] (fun s11 wr=> ∃(k:Nat),k≤m∧s11= .int .i64 k∧Hid (Eg (N+1) w0 wr c a q (ZD Z N (YK 3 1 (.slice ia m cp) m (F.map Lv))) { s with V:=Hf (leaveV s.ep) s.V (F.take k)} L)) (fun s11 _=>m -(intOf s11).toNat)
 case atStart=>exact ⟨0,by omega,rfl,H2⟩
 case round=>
  obtain ⟨k,hk,rfl,HE⟩:=hrel
  by_cases XP:k < m
  ·obtain ⟨i,hi⟩ : ∃i,F[k]?=some i:=⟨_,Zf Ri⟩;obtain ⟨g,rfl,hc⟩:=CX (HE.out.row (r:=N) HN.out Ze xput_same) (show (F.map Lv)[k]?=some (.int .i64 (i:Int)) by rw [ZP,hi]; rfl);have DY:=Nd (f:=leaveV s.ep) (V:=s.V) hi;have WV:=Nc (f:=leaveV s.ep) HX.out.1 (fun j hj=>(HX.out.2.1 j hj).1) hi;have Ml:=ni.out k;have Fz:=(HX.out.2.1 i (ZB hi)).1;have Um:=(HX.out.2.1 i (ZB hi)).2;obtain ⟨W,hW⟩ : ∃W,Hf (leaveV s.ep) s.V (F.take k)=W:=⟨_,rfl⟩;rw [hW] at HE DY WV Ml;obtain ⟨u,hu⟩ : ∃u,W.getD i ZZ=u:=⟨_,rfl⟩;rw [hu] at DY;rw [←WV,hu] at Um;have mP:i < W.length:=by rw [Ml.1]; exact Fz
   have y0:wr.cell? ⟨q.e,21,none⟩=some (.pointer (some ⟨a.r,0,none⟩)):=Eg.x21 HE.out;have HG:=Za (HE.out.get (n:=i) (show i < W.length from mP));rw [show ({ s with V:=W} :Sg).V.getD i ZZ=u from hu] at HG;have HU:=Za (Zh mP (Zh Um (Zh Ml (Zh DY hu))));clear hi DY WV Ml Fz Um hW hu mP;go_wp2_with fail;refine HG.out.mono ?_;rintro e w3 ⟨rfl,hb⟩;have GJ:Zs wr.heap.size wr (w3.alloc (.cells (Zd u) 63)):=hb.alloc hb.size _;have E3:=Za (HE.out.below GJ);have y4:(w3.alloc (.cells (Zd u) 63)).cell? ⟨w3.heap.size,4,none⟩=some (.int .i64 u.ex):=(Blk.new w3 63 (Zd u)).cell 4;clear hb GJ HE HG y0;go_wp2_with (first | (refine Zo rfl _ _ _ rfl w3.heap.size (Zd u) rfl rfl 63 _ (ZG w3 _) Ym rfl (Yx _) ?_; rw [Zu]));generalize w3.heap.size=zb at*;generalize w3.alloc (.cells (Zd u) 63)=W3 at*;have tI:Hid (∀n,Zj Zb 54 #[.pointer (some ⟨q.e,20,none⟩)] (W3.drewN n) fun e w'=>e= .returned (.int .i64 s.ep)∧ ∃m,w'=(W3.drewN n).drewN m):=Za fun n=>Bd (s:= { s with V:=W}) (E3.out.drewN n) HX.out.2.2.2.2.b0 HX.out.2.2.2.2.b1 HX.out.2.2.2.2.l HX.out.2.2.2.2.q
   by_cases hex:u.ex=s.ep
   ·have d:(u.ex==s.ep)=true:=by simp [hex]
    go_quiet ((go_at_call 54; exact Qw (tI.out _)));have E4:=Za (E3.out.drewN nq);have np:Hid (Zj Zb 214 #[.pointer (some ⟨q.e,21,none⟩),.int .i64 3,.slice (some ⟨(W3.drewN nq).heap.size,0,none⟩) 1 1] ((W3.drewN nq).alloc (.cells #[.int .i64 (i:Int)] 3)) fun e w'=>e= .returned (.tuple #[])∧Eg (N+1) w0 w' c a q (ZD Z N (YK 3 1 (.slice (some ⟨g,0,none⟩) m cp) m (F.map Lv))) { s with V:=Hf (leaveV s.ep) s.V (F.take (k+1))} L):=Za (by
     have Ml:=HU.out.2.2.1;have:=oF E4.out (i:=i) (ev:=3) rfl HU.out.1 Ml.2.2 jn;refine this.mono fun e w' ⟨he,h5⟩=>⟨he,?_⟩
     rw [HU.out.2.2.2.1,p5 HU.out.2.1 hex,←HU.out.2.2.2.2];exact h5)
    clear E4 E3 y4 HU d;exact ZfZ
   ·have d:(u.ex==s.ep)=false:=by simp [hex]
    go_quiet ((go_at_call 54; exact Qw (tI.out _)));have H6:Hid (Eg (N+1) w0 (W3.drewN nq) c a q (ZD Z N (YK 3 1 (.slice (some ⟨g,0,none⟩) m cp) m (F.map Lv))) { s with V:=Hf (leaveV s.ep) s.V (F.take (k+1))} L):=Za (by
     have e4:=E3.out.drewN nq;have e5:Hf (leaveV s.ep) s.V (F.take (k+1))=W:=by
      rw [HU.out.2.2.2.1,show leaveV s.ep u=u from if_neg fun hh=>hex hh.2,←HU.out.2.2.2.2,Tl HU.out.1]
     rw [e5]; exact e4)
    clear E3 y4 HU;generalize W3.drewN nq=W4 at*;exact ZcH
  ·obtain rfl:k=m:=by omega
   clear XP;have XP: ¬k < k:=by omega
   have H7:Hid (Eg N w0 wr c a q Z { s with V:=s.V.map (leaveV s.ep)} L):=Za (by
    have:=HE.out;rw [Yv Rf,HX.out.2.2.1] at this;exact this.drop HN.out)
   exact jx
end
end
section
open Go Go.RowKit Go.Deep
def Li (e:Int)(v:Yd) :Yd:=if v.wd≤e then NZ 4 v else v
theorem qX (e:Int)(v:Yd)(h:Yo v) :Yo (Li e v)∧(Li e v).bal=v.bal:=by
 unfold Li; split
 ·exact ⟨Sa h,rfl⟩
 ·exact ⟨h,rfl⟩
def We (i:Nat) :Int:=(i:Int)
def gZ (e:Int)(V:List Yd)(G:List Nat) :List QT:=(G.filter fun i=>decide (e < (V.getD i ZZ).wd)).map fun i=>((V.getD i ZZ).wd,(i:Int))
theorem qY (e:Int) : ∀(G:List Nat) (V:List Yd),(∀i ∈ G,i < V.length)→Oz e V (G.map We)=Hf (Li e) V G
 | [],_,_=>rfl
 | i::G,V,h=>by
  have hi:=h i ZI;rw [List.map_cons,Oz,Hf];have e1:(if(Ub V (We i)).wd≤e then V.set (We i).toNat (NZ 4 (Ub V (We i))) else V)=V.set i (Li e (V.getD i ZZ)):=by
   show (if(V.getD i ZZ).wd≤e then V.set i (NZ 4 (V.getD i ZZ)) else V)=_;unfold Li
   split
   ·rfl
   ·exact (Tl hi).symm
  rw [e1];exact qY e G _ fun j hj=>by rw [Xt]; exact h j LF
theorem uk (e:Int)(V:List Yd)(G:List Nat) :IT e V (G.map We)=gZ e V G:=by
 unfold IT gZ;rw [List.filter_map,VP];rfl
theorem nW {e:Int}{V:List Yd}{G:List Nat}{k i:Nat}(hk:G[k]?=some i) :gZ e V (G.take (k+1))=gZ e V (G.take k)++if e < (V.getD i ZZ).wd then [((V.getD i ZZ).wd,(i:Int))] else []:=by
 unfold gZ;rw [YR,hk,Qt,List.filter_append,List.map_append]
 congr 1
 by_cases h:e < (V.getD i ZZ).wd
 ·rw [if_pos h,Vz,if_pos (decide_eq_true h)]; rfl
 ·rw [if_neg h,Vz,if_neg (by rw [decide_eq_false h]; simp)]; rfl
theorem uv (e:Int)(V:List Yd)(G:List Nat) :(gZ e V G).length≤G.length:=by
 unfold gZ; rw [YE]; exact JX _ _
section
variable {N:Nat} {w0:DR} {w w' w1:Zc} {c:Nat→Int} {a:Pl} {q:Ql} {Z:Nat→Zc→(Nat→Prop)→Prop} {s s':Sg} {L L':List QT} {k:Nat}
theorem Eg.due (h:Eg N w0 w c a q Z s L){ep:Int}(h0:0≤ep)(h1:ep≤1099511627776)(hL:L.length≤100000) :
  Zj Zb 256 #[.pointer (some ⟨a.u,0,none⟩),.int .i64 ep] w fun e w'=> ∃v,e= .returned v∧Eg (N+1) w0 w' c a q (ZD Z N (YK 3 1 v (Vq ep L).length ((Vq ep L).map (ZR .i64)))) s (Gf ep L):=by
 obtain ⟨X,hX,Uf,hh,_,hK,_⟩:=h.open;refine (hh.due hX Uf h0 h1 hL).mono fun e w' ⟨v,he,g1,_⟩=>⟨v,he,hK _ _ _ _ g1 stays_row rfl rfl⟩
theorem Zik (h:Eg N w0 w c a q Z s L)(t:Tm c s){F:List Nat}(hF:Vq s.ep L=F.map We)(hFn:F.Nodup)(u3: ∀i ∈ F,i < s.V.length)(hep:s.ep≤1099511627776)(aG:0≤s.ep)(ei: ∀v ∈ s.V,v.wd≤1099511627776)(Cq:L.length≤90000)(hf: ∀v ∈ s.V,Yo v)(ht:Zz s.V≤18446744073709551615)(hl:s.V.length≤4096) :
  Zj Zb 210 #[.pointer (some ⟨q.e,0,none⟩)] w fun e w'=>e= .returned (.tuple #[])∧Eg N w0 w' c a q Z { s with V:=Oz s.ep s.V (Vq s.ep L)} (Lh s.ep s.V L):=by
 have hN:=h.low;have Mf:F.length≤4096:=by
  have h1:=List.Nodup.length_le_of_subset (l₂:=List.range s.V.length) hFn (fun i hi=>List.mem_range.2 (u3 i hi));rw [List.length_range] at h1; omega
 have Ku:Hf (Li s.ep) s.V F=Oz s.ep s.V (Vq s.ep L):=by rw [hF]; exact (qY _ _ _ u3).symm
 have yI:Gf s.ep L++gZ s.ep s.V F=Lh s.ep s.V L:=by unfold Lh; rw [hF,uk]
 have ZeZ:(Gf s.ep L).length≤L.length:=by unfold Gf; exact JX _ _
 have ni:Hid (∀k,Fl s.V (Hf (Li s.ep) s.V (F.take k))):=Za fun k=>RT (qX s.ep) _ _ hf fun i hi=>u3 i (ZK hi)
 have HX:=Za (Zh hFn (Zh u3 (Zh Ku (Zh ht (Zh t (Zh yI (Zh ei (Zh aG (Zh (Nat.le_trans ZeZ Cq) (Zh hF (Zh hep Cq)))))))))));have HN:=Za hN;have HH:=Za h;clear h hf ht hl hN hF hFn u3 Ku t yI ZeZ ei hep aG Cq;go_enter Tryz.func210,Tryz.ntmps210;go_wp2_with fail;refine Pu (fun w'=>Blk w' q.e 107 (Uw c a q)) 3 [0,1,2,3,4,5,6,7,11] (?_) ?_
 ·exact HH.out.drew.blk
 refine Kg ?_;refine mD ?_;refine BN ?_;refine YJ _ _ ⟨q.e,26,none⟩ (.pointer (some ⟨a.u,0,none⟩)) rfl rfl rfl (fun w h=>by simp [go_sem,h]) (fun w h=>h.cell 26) ?_;refine Qe ?_;refine BN ?_;refine Qc ?_;have H0:=Za HH.out.drew;clear HH;generalize w.drew=V0 at*;refine hfO (i:=8) ?_;refine JZ #[.pointer (some ⟨q.e,20,none⟩)] Ke ((Bd H0.out HX.out.2.2.2.2.1.b0 HX.out.2.2.2.2.1.b1 HX.out.2.2.2.2.1.l HX.out.2.2.2.2.1.q).mono ?_);rintro e w1 ⟨rfl,m1,rfl⟩;have H1:=Za (H0.out.drewN m1);refine ⟨_,rfl,H1.out.blk,?_⟩;clear H0;generalize V0.drewN m1=V1 at*;refine hfO (i:=9) ?_;refine JG ?_;refine JZ #[.pointer (some ⟨a.u,0,none⟩),.int .i64 s.ep] Tryz.call256 ((H1.out.due HX.out.2.2.2.2.2.2.2.1 HX.out.2.2.2.2.2.2.2.2.2.2.1 (by have:=HX.out.2.2.2.2.2.2.2.2.2.2.2; omega)).mono ?_);rintro e w2 ⟨v,rfl,h2⟩;refine ⟨_,rfl,h2.blk,?_⟩;clear H1;rw [HX.out.2.2.2.2.2.2.2.2.2.1,YE,VP,show (ZR .i64 ∘ We)=Lv from rfl] at h2;obtain ⟨ia,cp,rfl⟩:=XC (h2.row (r:=N) HN.out Ze xput_same);obtain ⟨m,hm⟩ : ∃m,F.length=m:=⟨_,rfl⟩;have HM:=Za hm;rw [hm] at h2 Mf;have H2:=Za h2;rw [hm];have UJ:=Za h2.blk;clear h2 hm;refine JG ?_;refine FX (fun w'=>Blk w' q.e 107 (Uw c a q)) (m:=1) (f:=0) [10] (?_) ?_
 ·exact UJ.out
 refine Kg ?_;refine FV ?_;refine GN ?_;refine Qc ?_;clear UJ;refine ⟨by kernel_rfl,Yr ?_⟩;refine JG ?_;go_wp2_with fail;go_loopw [17] (fun s17 wr=> ∃(k:Nat),k≤m∧s17= .int .i64 k∧Hid (Eg (N+1) w0 wr c a q (ZD Z N (YK 3 1 (.slice ia m cp) m (F.map Lv))) { s with V:=Hf (Li s.ep) s.V (F.take k)} (Gf s.ep L++gZ s.ep s.V (F.take k)))) (fun s17 _=>m -(intOf s17).toNat)
 case atStart=>exact ⟨0,by omega,rfl,Za (by rw [show gZ s.ep s.V (F.take 0)=[] from rfl,XH]; exact H2.out)⟩
 case round=>
  obtain ⟨k,hk,rfl,HE⟩:=hrel
  by_cases XP:k < m
  ·obtain ⟨i,hi⟩ : ∃i,F[k]?=some i:=⟨_,Zf Ri⟩;obtain ⟨g,rfl,hc⟩:=CX (HE.out.row (r:=N) HN.out Ze xput_same) (show (F.map Lv)[k]?=some (.int .i64 (i:Int)) by rw [ZP,hi]; rfl);have DY:=Nd (f:=Li s.ep) (V:=s.V) hi;have WV:=Nc (f:=Li s.ep) HX.out.1 HX.out.2.1 hi;have hbk:=nW (e:=s.ep) (V:=s.V) hi;have Ml:=ni.out k;have Fz:=HX.out.2.1 i (ZB hi);have mS:=uv s.ep s.V (F.take k);obtain ⟨W,hW⟩ : ∃W,Hf (Li s.ep) s.V (F.take k)=W:=⟨_,rfl⟩;rw [hW] at HE DY WV Ml;obtain ⟨u,hu⟩ : ∃u,W.getD i ZZ=u:=⟨_,rfl⟩;rw [hu] at DY;rw [←WV,hu] at hbk;have huw:u.wd≤1099511627776:=by rw [←hu,WV]; exact HX.out.2.2.2.2.2.2.1 _ jg
   have hLk:(Gf s.ep L++gZ s.ep s.V (F.take k)).length≤100000:=by
    rw [List.length_append];have h1:=HX.out.2.2.2.2.2.2.2.2.1;rw [List.length_take] at mS;omega
   have mP:i < W.length:=by rw [Ml.1]; exact Fz
   have y0:wr.cell? ⟨q.e,21,none⟩=some (.pointer (some ⟨a.r,0,none⟩)):=Eg.x21 HE.out;have HG:=Za (HE.out.get (n:=i) (show i < W.length from mP));rw [show ({ s with V:=W} :Sg).V.getD i ZZ=u from hu] at HG;have HU:=Za (Zh mP (Zh (Zh huw hLk) (Zh Ml (Zh DY (Zh hu hbk)))));obtain ⟨Lk,aD⟩ : ∃Lk,Gf s.ep L++gZ s.ep s.V (F.take k)=Lk:=⟨_,rfl⟩;have HLK:=Za aD;rw [aD] at HE;clear hi DY WV Ml Fz hW hu mP hbk mS huw hLk aD;go_wp2_with fail;refine HG.out.mono ?_;rintro e w3 ⟨rfl,hb⟩;have GJ:Zs wr.heap.size wr (w3.alloc (.cells (Zd u) 63)):=hb.alloc hb.size _;have E3:=Za (HE.out.below GJ);have y4:(w3.alloc (.cells (Zd u) 63)).cell? ⟨w3.heap.size,5,none⟩=some (.int .i64 u.wd):=(Blk.new w3 63 (Zd u)).cell 5;have AS:Hid (Blk (w3.alloc (.cells (Zd u) 63)) w3.heap.size 63 (Zd u)):=Za (Blk.new _ _ _);clear hb GJ HE HG y0;go_wp2_with (first | (refine Zo rfl _ _ _ rfl w3.heap.size (Zd u) rfl rfl 63 _ (ZG w3 _) Ym rfl (Yx _) ?_; rw [Zu]));generalize w3.heap.size=zb at*;generalize w3.alloc (.cells (Zd u) 63)=W3 at*;have tI:Hid (∀n,Zj Zb 54 #[.pointer (some ⟨q.e,20,none⟩)] (W3.drewN n) fun e w'=>e= .returned (.int .i64 s.ep)∧ ∃m,w'=(W3.drewN n).drewN m):=Za fun n=>Bd (s:= { s with V:=W}) (E3.out.drewN n) HX.out.2.2.2.2.1.b0 HX.out.2.2.2.2.1.b1 HX.out.2.2.2.2.1.l HX.out.2.2.2.2.1.q
   by_cases hex:s.ep < u.wd
   ·have d:decide (s.ep < u.wd)=true:=decide_eq_true hex;go_quiet ((go_at_call 54; exact Qw (tI.out _)));have E4:=Za (E3.out.drewN nq);have nb:Hid (Blk (W3.drewN nq) zb 63 (Zd u)):=Za (AS.out.drewN nq);clear E3 AS y4 d tI;generalize W3.drewN nq=W4 at*;go_wp2_with fail;refine wqT 5 ?_;refine BA ?_;refine BN ?_;refine Jw 63 _ zb 63 (Zd u) _ rfl rfl rfl (fun w' h=>by obtain ⟨m,rfl⟩:=h; exact nb.out) Zr rfl Ym ?_;refine Qe ?_;refine Qc ?_;intro _ JB;obtain ⟨nr,Xh⟩:=JB;subst Xh;have yd:Hid (Zj Zb 129 #[.pointer (some ⟨q.e,24,none⟩),.int .i64 (i:Int),.agg (Zd u)] (W4.drewN nr) fun e w'=>e= .returned (.tuple #[])∧Eg (N+1) w0 w' c a q (ZD Z N (YK 3 1 (.slice (some ⟨g,0,none⟩) m cp) m (F.map Lv))) { s with V:=Hf (Li s.ep) s.V (F.take (k+1))} (Gf s.ep L++gZ s.ep s.V (F.take (k+1)))):=Za (by
     have h0:=HX.out.2.2.2.2.2.2.2.1;have:=oA (E4.out.drewN nr) (i:=(i:Int)) (v:=u) Ze HU.out.2.1.1 (by rw [←HLK.out]; exact HU.out.2.1.2);refine this.mono fun e w' ⟨he,h5⟩=>⟨he,?_⟩
     rw [HU.out.2.2.2.2.2,if_pos hex,←List.append_assoc,HLK.out];have e5:Hf (Li s.ep) s.V (F.take (k+1))=W:=by
      rw [HU.out.2.2.2.1,show Li s.ep u=u from if_neg Ze,←HU.out.2.2.2.2.1,Tl HU.out.1]
     rw [e5];exact h5)
    clear E4 nb HU HLK;generalize W4.drewN nr=W5 at*;go_wp2_with fail;refine yd.out.mono ?_;rintro e w6 ⟨rfl,h6⟩;have H6:=Za h6;clear h6 yd;exact ZcH
   ·have d:decide (s.ep < u.wd)=false:=decide_eq_false hex;go_quiet ((go_at_call 54; exact Qw (tI.out _)));have E4:=Za (E3.out.drewN nq);have np:Hid (Zj Zb 214 #[.pointer (some ⟨q.e,21,none⟩),.int .i64 4,.slice (some ⟨(W3.drewN nq).heap.size,0,none⟩) 1 1] ((W3.drewN nq).alloc (.cells #[.int .i64 (i:Int)] 3)) fun e w'=>e= .returned (.tuple #[])∧Eg (N+1) w0 w' c a q (ZD Z N (YK 3 1 (.slice (some ⟨g,0,none⟩) m cp) m (F.map Lv))) { s with V:=Hf (Li s.ep) s.V (F.take (k+1))} (Gf s.ep L++gZ s.ep s.V (F.take (k+1)))):=Za (by
     have Ml:=HU.out.2.2.1;have:=oF E4.out (i:=i) (ev:=4) rfl HU.out.1 Ml.2.2 jn;refine this.mono fun e w' ⟨he,h5⟩=>⟨he,?_⟩
     rw [HU.out.2.2.2.2.2,if_neg hex,XH,HLK.out,HU.out.2.2.2.1,show Li s.ep u=NZ 4 u from if_pos Ze,←HU.out.2.2.2.2.1];exact h5)
    clear E4 E3 y4 HU d HLK AS;exact ZfZ
  ·obtain rfl:k=m:=by omega
   clear XP;have XP: ¬k < k:=by omega
   have H7:Hid (Eg N w0 wr c a q Z { s with V:=Oz s.ep s.V (Vq s.ep L)} (Lh s.ep s.V L)):=Za (by
    have:=HE.out;rw [Yv Rf,HX.out.2.2.1,HX.out.2.2.2.2.2.1] at this;exact this.drop HN.out)
   exact jx
end
end
end Go.Proofs.YtianiiijaopdpaaGreat
