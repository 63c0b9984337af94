/- Part 48 of 58: Sla Con Wdr Beg End. -/
import Derived.Test.YtianiiijaopdpaaGreatZu00
import Derived.Test.YtianiiijaopdpaaGreatZu47
namespace Go.Proofs.YtianiiijaopdpaaGreat
set_option linter.unusedVariables false
set_option linter.unusedSimpArgs false
set_option maxRecDepth 100000
set_option maxHeartbeats 8000000
open _root_.And renaming intro → Zl
open _root_.Go.RowKit renaming Below → Zt
open _root_.Go.Proofs.YtianiiijaopdpaaGreat.Zy renaming setRow → QS
open _root_.Go renaming Calls → Zi, World → Zc, bodyPost_ret → ZL, heap_alloc_new → ZD, results_cell_row → ZU, setRow_heap → Yc, wpList_load_row → Zn, wpList_store_row → Zm, wpQuiet → ZB, wpQuiet_nil → Zj, wp_store_row → X8
open _root_.Go.Calls renaming quiet_of → Qv
open _root_.Go.Proofs.YtianiiijaopdpaaGreat.Eg renaming blkAt → VQ, drew → KL
open _root_.Go.Proofs.YtianiiijaopdpaaGreat.Kept renaming refl → ZM, setRow → Xy
open _root_.Go.Lib renaming hid → Za
open _root_.List renaming append_nil → XL, filter_cons → JT, getD_eq_getElem?_getD → Zq, getElem?_eq_getElem → Zf, getElem?_map → ZR, length_filter_le → JQ, length_map → YM, length_set → Xw, map_map → KN, mem_of_getElem? → ZE, mem_of_mem_take → ZP, take_add_one → YN, take_of_length_le → Yn
open _root_.Go.NoPanic renaming normal → ZH
open _root_.Go.Proofs.YtianiiijaopdpaaGreat.Of renaming op → Km, rc → VS
open _root_.Option renaming toList_some → Qr
open _root_.Go.Proofs.Tryz renaming call54 → J5, prog → Zb, underlying24 → ZC, underlying37 → ZS, underlying42 → Yf, underlying48 → XB, underlying49 → Xt, underlying63 → Zs, underlying75 → Ye
open _root_.Go.Value renaming int → ZX
open _root_.Go.World renaming setRow_alloc_new → Zu
theorem jZ {G:Prop}(h:G:=by show ZA W≤_; rw [Ml.2.1]; exact HX.out.2.2.2.1) :G:=h
theorem jT {G:Prop}(h:G:=by rw [List.getD_eq_getElem?_getD,List.getElem?_eq_getElem EB]; exact List.getElem_mem EB) :G:=h
theorem Zgq {G:Prop} (h:G:=by
  generalize W3.drewN nq=W4 at*;go_wp2_with fail;refine ot.out.mono ?_;rintro e w6 ⟨rfl,h6⟩;have H6:=Lib.hid h6;clear h6 ot;go_wp2_with fail;go_roundw
  case rel=>exact ⟨k+1,by omega,by go_num,H6⟩
  case measure=>simp [intOf]; omega) :G:=h
theorem Zdv {G:Prop} (h:G:=by
  go_wp2_with fail;go_roundw
  case rel=>exact ⟨k+1,by omega,by go_num,H6⟩
  case measure=>simp [intOf]; omega) :G:=h
theorem Zag {G:Prop} (h:G:=by
  exact ⟨LY.out.drew.blk,LY.out.drew.blkAt (r:=N+2) ZQ Ze xput_same⟩) :G:=h
theorem Zar {G:Prop} (h:G:=by
  exact ⟨Wk.out.blk,Wk.out.blkAt (r:=N+2) ZQ Ze xput_same⟩) :G:=h
section
open Go Go.RowKit Go.Deep
theorem kM {V:List Yd}{n:Nat}{v:Yd}(hf: ∀v ∈ V,Yq v)(hv:V[n]?=some v) :v.bal≤ZA V:=by
 have h1: ∀x ∈ V.set n { v with bal:=0},Yq x:=Gv hf ⟨rfl,(hf v (QI hv)).2⟩;have h2:=total_nonneg h1;rw [total_set hv] at h2;simp only at h2;omega
def cX (c:Nat→Int)(s:Sg)(o:Oq)(L:List QO) :List QO:=if WH c s o.ix=0 then L++xV c s o.ix else L
section
variable {N:Nat} {w0:Ez} {w w' w1:Zc} {c:Nat→Int} {a:Pl} {q:Ql} {Z:Nat→Zc→(Nat→Prop)→Prop} {s s':Sg} {L L':List QO} {k:Nat}
theorem gJ {o:Oq}{kk:Int}(h:WH c s o.ix=kk)(hk:kk≠0) :Rj c s o=(UN s o.kd kk,s):=by unfold Rj; rw [h,if_neg hk]
theorem xW {o:Oq}(h:WH c s o.ix=0) :Rj c s o=(Fj s o.kd o.ix (-1),M8 c s o.ix):=by unfold Rj; rw [if_pos h]
theorem Zbu (hc:GE c)(hi:Inv c k s)(hk:k≤1000000)(h:Eg N w0 w c a q Z s L)(o:Oq)(ho:Kg o)(hL:L.length≤100000) :Zi Zb 86 #[.pointer (some ⟨q.e,0,none⟩),.agg (ZJ o)] w (uQ N w0 c a q Z (Rj c s o) (cX c s o L)):=by
 have hN:=h.low;have hO:=Dz h o;have HT:=Za (hi.tm hc hk);have HN:=Za hN;have HC:=Za (Zl hc (Zl hi (Zl hk (Zl ho hL))));have hex:=ZfY hc hi hk o.ix;have uD:=Za hex;obtain ⟨u,hu⟩ : ∃u,(if GI s.V o.ix=true then Z9 else Vy s.V o.ix)=u:=⟨_,rfl⟩;obtain ⟨ok,Og⟩ : ∃ok,(!GI s.V o.ix)=ok:=⟨_,rfl⟩;have HU:=Za (Zl hu Og);have uF:Hid (∀wx,Of N w0 wx c a q Z s L w.heap.size o→Zi Zb 70 #[.pointer (some ⟨a.r,0,none⟩),.int .i64 o.ix] wx fun e w'=>e= .returned (.tuple #[.agg (Zd u),.bool ok])∧Zt wx.heap.size wx w'):=Za (fun wx hx=>by
  obtain ⟨X,hX,VP,hh,_⟩:=Eg.open hx
  cases hb:GI s.V o.ix with
  | true=>
   rw [hb] at hu Og;rw [←hu,←Og];exact hh.get_out VP (by simpa [GI] using hb)
  | false=>
   rw [hb] at hu Og;obtain ⟨n,e,hn⟩:=Gg hb;rw [←hu,←Og];have:=hh.get_in VP hn;rw [←e] at this;exact this)
 clear hc hi hk ho hL hN h hex hu Og;go_enter Tryz.func86,Tryz.ntmps86;go_upto_region 1 with (fail);generalize hW:(w.alloc (.cells (ZJ o) 37)).alloc (.cells _ 42)=W;have eW:(w.alloc (.cells (ZJ o) 37)).alloc (.cells (Zz Gb) 42)=W:=hW;rw [eW] at hO;generalize w.heap.size=b at*;have HO:=Za hO;clear hW eW hO;go_cut [5,6] from 10 to 20 (fun s5 s6 wx=> ∃zb:Nat,s5= .pointer (some ⟨zb,0,none⟩)∧s6= .bool ok∧Hid (Eg (N+2+1) w0 wx c a q (ZI (ZI (ZI Z N (YR b 37 (ZJ o))) (N+1) (YR (b+1) 42 (Zz Gb))) (N+2) (YR zb 63 (Zd u))) s L))
 case first=>
  exact zT1
 case rest=>
  obtain ⟨zb,rfl,rfl,HE⟩:=hcut;clear uF HO
  cases hb:GI s.V o.ix with
  | true=>
   have wC:WH c s o.ix=7:=by rw [uD.out,if_pos hb]
   have dL:Hid (Rj c s o=(UN s o.kd 7,s)∧cX c s o L=L):=Za ⟨gJ wC Xh,by unfold cX; rw [wC]; rfl⟩;obtain rfl:ok=false:=by rw [←HU.out.2,hb]; rfl
   have HD:Hid (Of N w0 wc c a q Z s L b o):=Za (HE.out.drop ZQ);have HE:=dL;clear dL uD HU HC hb wC;have Vv:=Za (Km HD.out HN.out);go_wp2_with (first | (refine Zn rfl 37 _ rfl b rfl 37 _ (0,0) _ Vv.out ZS rfl XV ?_));refine (Vf (N:=N+2) HD.out HT.out o 7).mono ?_;rintro e w9 ⟨rfl,h9⟩;have H9:Hid (Of N w0 w9 c a q Z s L b o):=Za h9;have Vs:=Za (VS h9 HN.out);clear h9 Vv HD;go_wp2_with (first | (refine Zm rfl _ _ _ rfl (b+1) (Zz (VN o.kd 7 s.bk s.ep)) rfl rfl 42 _ Vs.out YS rfl (YC _) ?_));exact ZL (v:= .agg (Zz (VN o.kd 7 s.bk s.ep))) (ZU (fn:=Tryz.f86) rfl _ _ (b+1) 42 _ (0,0) _ rfl (Yc _ _ _ _ _ _ Vs.out) Yf rfl YS) rfl (Zl JP KH)
  | false=>
   obtain rfl:ok=true:=by rw [←HU.out.2,hb]; rfl
   have hu:=HU.out.1;rw [hb] at hu;replace hu:Vy s.V o.ix=u:=hu;obtain ⟨n,hn,bA⟩:=Gg hb;have hex:=uD.out;rw [hb,hu] at hex;replace hex:WH c s o.ix=if u.st=2∧c 1≤s.F.length then 6 else(Hc u s.ep c).1:=hex
   rw [hu] at bA;have HV:=Za (Zl hn (Zl bA hu));have HX0:=Za hex;have y1:wc.cell? ⟨zb,1,none⟩=some (.int .i64 u.st):=(HE.out.blkAt (r:=N+2) ZQ Ze xput_same).cell 1;have HF:Hid (Zi Zb 125 #[.pointer (some ⟨q.e,24,none⟩),.int .i64 0] wc fun e w'=>e= .returned (.bool (((Hs (c 1).toNat s.F s.W 0:Nat) :Int)==0))∧ ∃m,w'=wc.drewN m):=Za (zn HE.out 0);obtain ⟨f,hf⟩ : ∃f,Hs (c 1).toNat s.F s.W 0=f:=⟨_,rfl⟩;rw [hf] at HF;rw [MB (.inl rfl)] at hf;replace hf:(c 1).toNat - s.F.length=f:=hf;have hll:(s.F.length:Int)≤c 1:=HC.out.2.1.fl;clear uD HU hb hex hu hn bA
   by_cases h6:u.st=2∧c 1≤(s.F.length:Int)
   ·have hs6:WH c s o.ix=6:=by rw [HX0.out,if_pos h6]
    have dK:Hid (Rj c s o=(UN s o.kd 6,s)∧cX c s o L=L):=Za ⟨gJ hs6 Xh,by unfold cX; rw [hs6]; rfl⟩;have d2:(u.st==2)=true:=by simp [h6.1]
    obtain rfl:f=0:=by omega
    clear h6 hll hf HX0 HV HC hs6;go_wp2_with fail;refine HF.out.mono ?_;rintro e w2 ⟨rfl,m,rfl⟩;have HD:Hid (Of N w0 (wc.drewN m) c a q Z s L b o):=Za ((HE.out.drop ZQ).drewN m);clear HF HE y1;have HE:=dK;clear dK d2;generalize wc.drewN m=V at*;have Vv:=Za (Km HD.out HN.out);go_wp2_with (first | (refine Zn rfl 37 _ rfl b rfl 37 _ (0,0) _ Vv.out ZS rfl XV ?_));refine (Vf (N:=N+2) HD.out HT.out o 6).mono ?_;rintro e w9 ⟨rfl,h9⟩;have H9:Hid (Of N w0 w9 c a q Z s L b o):=Za h9;have Vs:=Za (VS h9 HN.out);clear h9 Vv HD;go_wp2_with (first | (refine Zm rfl _ _ _ rfl (b+1) (Zz (VN o.kd 6 s.bk s.ep)) rfl rfl 42 _ Vs.out YS rfl (YC _) ?_));exact ZL (v:= .agg (Zz (VN o.kd 6 s.bk s.ep))) (ZU (fn:=Tryz.f86) rfl _ _ (b+1) 42 _ (0,0) _ rfl (Yc _ _ _ _ _ _ Vs.out) Yf rfl YS) rfl (Zl JP KH)
   ·go_upto_region 4 with (fail);go_cut [27] from 28 to 36 (fun s27 wx=>s27= .bool false∧Hid (Eg (N+2+1) w0 wx c a q (ZI (ZI (ZI Z N (YR b 37 (ZJ o))) (N+1) (YR (b+1) 42 (Zz Gb))) (N+2) (YR zb 63 (Zd u))) s L))
    case first=>
     by_cases h2:u.st=2
     ·have d2:(u.st==2)=true:=by simp [h2]
      have hfp:((f:Int)==0)=false:=by simp; omega
      clear h6 h2;go_wp2_with fail;refine HF.out.mono ?_;rintro e w2 ⟨rfl,m,rfl⟩;have Hd:=Za (HE.out.drewN m);go_wp2_with fail;go_meet;exact ⟨rfl,Hd⟩
     ·have d2:(u.st==2)=false:=by simp [h2]
      go_wp2_with fail;go_meet;exact ⟨rfl,HE⟩
    case rest=>
     obtain ⟨rfl,Hd⟩:=hcut;clear HF HE y1;generalize wc=W2 at*;have MF: ∃r2 cd am,(Hc u s.ep c).2=r2∧(Hc u s.ep c).1=cd∧tW u s.ep c=am:=⟨_,_,_,rfl,rfl,rfl⟩;obtain ⟨r2,cd,am,MF,p7,ham⟩:=MF;have HSl:Hid (∀wx,Zi Zb 126 #[.agg (Zd u),.int .i64 s.ep,.agg (Zk c)] wx fun e w'=>e= .returned (.tuple #[.agg (Zd r2),.int .u64 am,.int .i64 cd])∧Zt wx.heap.size wx w'):=Za (fun wx=>by
      have h0:=mY s.ep wx (HC.out.2.1.fits u (QI HV.out.2.1)) HC.out.1.gc;unfold RM at h0;rw [MF,p7,ham] at h0;exact h0)
     have ze:Hid (WH c s o.ix=cd):=Za (by rw [HX0.out,if_neg Ze,p7]);have HR:=Za (Zl MF (Zl p7 ham));have HF6:Hid (u.st=2→(s.F.length:Int)< c 1):=Za (fun e=>by omega);clear MF p7 ham h6 hll hf HX0;go_upto_region 6 with (fail);go_cut [7,8,9] from 40 to 53 (fun s7 s8 s9 wx=> ∃zs:Nat,s7= .pointer (some ⟨zs,0,none⟩)∧s8= .int .u64 am∧s9= .int .i64 cd∧Hid (Eg (N+2+1+1) w0 wx c a q (ZI (ZI (ZI (ZI Z N (YR b 37 (ZJ o))) (N+1) (YR (b+1) 42 (Zz Gb))) (N+2) (YR zb 63 (Zd u))) (N+3) (YR zs 63 (Zd r2))) s L))
     case first=>
      refine PG (fun w'=>Eg (N+2+1) w0 w' c a q (ZI (ZI (ZI Z N (YR b 37 (ZJ o))) (N+1) (YR (b+1) 42 (Zz Gb))) (N+2) (YR zb 63 (Zd u))) s L) 10 [0,1,2,3,5,6,7,8] (?_) ?_
      ·exact Hd.out.drew
      simp only [qF,qH];show ZB _ _ _ _ [_,_,_,_,_,_,_,_] _;refine Qg 63 _ zb 63 (Zd u) _ rfl rfl rfl (fun w h=>VQ (r:=N+2) h ZQ Ze xput_same) Zs rfl Yo ?_;simp only [qB];iterate 6 (go_big_quiet_step ((intros; rfl)))
      refine DE 24 _ q.e 0 (Zk c).toList _ rfl rfl rfl (fun w h=>LF (Eg.blk h)) ZC rfl Xn ?_;refine Zj ?_;have HX:=Za Hd.out.drew;clear Hd;generalize W2.drew=V0 at*;refine UI (i:=4) (k:=14) Yi ZO ZO ?_ ?_
      ·refine JM #[.pointer (some ⟨q.e,20,none⟩)] J5 ((Bc HX.out HT.out.b0 HT.out.b1 HT.out.l HT.out.q).mono ?_);rintro e w4 ⟨rfl,m4,rfl⟩;replace HX:=Za (HX.out.drewN m4);refine ⟨_,rfl,HX.out,?_⟩;generalize V0.drewN m4=V1 at*;try simp only [qA]
       refine UI (i:=9) (k:=14) Yi ZO ZO ?_ ?_
       ·refine JM #[.agg (Zd u),.int .i64 s.ep,.agg (Zk c)] Tryz.call126 ((HSl.out _).mono ?_);rintro e w5 ⟨rfl,hb5⟩;replace HX:=Za (HX.out.below hb5);refine ⟨_,rfl,HX.out,?_⟩;clear hb5;try simp only [qA]
        refine FR (fun w'=>Eg (N+2+1) w0 w' c a q (ZI (ZI (ZI Z N (YR b 37 (ZJ o))) (N+1) (YR (b+1) 42 (Zz Gb))) (N+2) (YR zb 63 (Zd u))) s L) (m:=8) (f:=4) [10,11,12,13] (?_) ?_
        ·exact HX.out
        simp only [qF,qH];show ZB _ _ _ _ [_,_,_,_] _;iterate 4 (go_big_quiet_step ((intros; rfl)))
        refine Zj ?_;refine Qt (i:=14) ?_;refine YE rfl rfl (Kk rfl ?_);replace HX:=Za (Eg.box HX.out (Zd Z9) 63);refine ⟨HX.out.drop ZQ,?_⟩;generalize w5.heap.size=zs at*;generalize w5.alloc (.cells (Zd Z9) 63)=V3 at*;try simp only [qA]
        refine Qt (i:=15) ?_;have hB:=HX.out.blkAt (r:=N+2+1) ZQ Ze xput_same;refine YE rfl rfl (X8 _ _ _ rfl zs (Zd r2) rfl rfl 63 _ hB Yo rfl (Yy _) ?_);have h7:=HX.out.setr (r:=N+2+1) ZQ Ze xput_same (cs':=Zd r2) (QS hB _) (Xy (S:=fun i=>i=zs) (ZM _ _) (.inl rfl) _);rw [Xg] at h7;have h8:=h7.drop ZQ;refine ⟨h8,?_⟩;clear HX hB;generalize V3.setRow zs (Zd r2)=w7 at*;try simp only [qA]
        refine FR (fun w'=>Eg (N+2+1) w0 w' c a q (ZI (ZI (ZI Z N (YR b 37 (ZJ o))) (N+1) (YR (b+1) 42 (Zz Gb))) (N+2) (YR zb 63 (Zd u))) s L) (m:=2) (f:=0) [16,17] (?_) ?_
        ·exact h8
        simp only [qF,qH];show ZB _ _ _ _ [_,_] _;iterate 2 (go_big_quiet_step ((intros; rfl)))
        refine Zj ?_;refine ⟨by kernel_rfl,ZH ?_⟩;try simp only [qA]
        go_wp2_with fail;go_meet;exact ⟨_,rfl,rfl,rfl,Za h7⟩
       ·refine YE rfl rfl (Kk rfl ?_);replace HX:=Za (Eg.box HX.out (Zd Z9) 63);refine ⟨HX.out.drop ZQ,?_⟩;generalize V1.heap.size=zs at*;generalize V1.alloc (.cells (Zd Z9) 63)=V2 at*;try simp only [qA]
        refine Qt (i:=9) ?_;refine JM #[.agg (Zd u),.int .i64 s.ep,.agg (Zk c)] Tryz.call126 ((HSl.out _).mono ?_);rintro e w5 ⟨rfl,hb5⟩;replace HX:=Za (HX.out.below hb5);refine ⟨_,rfl,HX.out.drop ZQ,?_⟩;clear hb5;try simp only [qA]
        refine FR (fun w'=>Eg (N+2+1) w0 w' c a q (ZI (ZI (ZI Z N (YR b 37 (ZJ o))) (N+1) (YR (b+1) 42 (Zz Gb))) (N+2) (YR zb 63 (Zd u))) s L) (m:=7) (f:=3) [10,11,12,13] (?_) ?_
        ·exact HX.out.drop ZQ
        simp only [qF,qH];show ZB _ _ _ _ [_,_,_,_] _;iterate 4 (go_big_quiet_step ((intros; rfl)))
        refine Zj ?_;refine Qt (i:=15) ?_;have hB:=HX.out.blkAt (r:=N+2+1) ZQ Ze xput_same;refine YE rfl rfl (X8 _ _ _ rfl zs (Zd r2) rfl rfl 63 _ hB Yo rfl (Yy _) ?_);have h7:=HX.out.setr (r:=N+2+1) ZQ Ze xput_same (cs':=Zd r2) (QS hB _) (Xy (S:=fun i=>i=zs) (ZM _ _) (.inl rfl) _);rw [Xg] at h7;have h8:=h7.drop ZQ;refine ⟨h8,?_⟩;clear HX hB;generalize w5.setRow zs (Zd r2)=w7 at*;try simp only [qA]
        refine FR (fun w'=>Eg (N+2+1) w0 w' c a q (ZI (ZI (ZI Z N (YR b 37 (ZJ o))) (N+1) (YR (b+1) 42 (Zz Gb))) (N+2) (YR zb 63 (Zd u))) s L) (m:=2) (f:=0) [16,17] (?_) ?_
        ·exact h8
        simp only [qF,qH];show ZB _ _ _ _ [_,_] _;iterate 2 (go_big_quiet_step ((intros; rfl)))
        refine Zj ?_;refine ⟨by kernel_rfl,ZH ?_⟩;try simp only [qA]
        go_wp2_with fail;go_meet;exact ⟨_,rfl,rfl,rfl,Za h7⟩
      ·refine YE rfl rfl (Kk rfl ?_);replace HX:=Za (Eg.box HX.out (Zd Z9) 63);refine ⟨HX.out.drop ZQ,?_⟩;generalize V0.heap.size=zs at*;generalize V0.alloc (.cells (Zd Z9) 63)=V1 at*;try simp only [qA]
       refine Qt (i:=4) ?_;refine JM #[.pointer (some ⟨q.e,20,none⟩)] J5 ((Bc HX.out HT.out.b0 HT.out.b1 HT.out.l HT.out.q).mono ?_);rintro e w4 ⟨rfl,m4,rfl⟩;replace HX:=Za (HX.out.drewN m4);refine ⟨_,rfl,HX.out.drop ZQ,?_⟩;generalize V1.drewN m4=V2 at*;try simp only [qA]
       refine Qt (i:=9) ?_;refine JM #[.agg (Zd u),.int .i64 s.ep,.agg (Zk c)] Tryz.call126 ((HSl.out _).mono ?_);rintro e w5 ⟨rfl,hb5⟩;replace HX:=Za (HX.out.below hb5);refine ⟨_,rfl,HX.out.drop ZQ,?_⟩;clear hb5;try simp only [qA]
       refine FR (fun w'=>Eg (N+2+1) w0 w' c a q (ZI (ZI (ZI Z N (YR b 37 (ZJ o))) (N+1) (YR (b+1) 42 (Zz Gb))) (N+2) (YR zb 63 (Zd u))) s L) (m:=7) (f:=3) [10,11,12,13] (?_) ?_
       ·exact HX.out.drop ZQ
       simp only [qF,qH];show ZB _ _ _ _ [_,_,_,_] _;iterate 4 (go_big_quiet_step ((intros; rfl)))
       refine Zj ?_;refine Qt (i:=15) ?_;have hB:=HX.out.blkAt (r:=N+2+1) ZQ Ze xput_same;refine YE rfl rfl (X8 _ _ _ rfl zs (Zd r2) rfl rfl 63 _ hB Yo rfl (Yy _) ?_);have h7:=HX.out.setr (r:=N+2+1) ZQ Ze xput_same (cs':=Zd r2) (QS hB _) (Xy (S:=fun i=>i=zs) (ZM _ _) (.inl rfl) _);rw [Xg] at h7;have h8:=h7.drop ZQ;refine ⟨h8,?_⟩;clear HX hB;generalize w5.setRow zs (Zd r2)=w7 at*;try simp only [qA]
       refine FR (fun w'=>Eg (N+2+1) w0 w' c a q (ZI (ZI (ZI Z N (YR b 37 (ZJ o))) (N+1) (YR (b+1) 42 (Zz Gb))) (N+2) (YR zb 63 (Zd u))) s L) (m:=2) (f:=0) [16,17] (?_) ?_
       ·exact h8
       simp only [qF,qH];show ZB _ _ _ _ [_,_] _;iterate 2 (go_big_quiet_step ((intros; rfl)))
       refine Zj ?_;refine ⟨by kernel_rfl,ZH ?_⟩;try simp only [qA]
       go_wp2_with fail;go_meet;exact ⟨_,rfl,rfl,rfl,Za h7⟩
     case rest=>
      obtain ⟨zs,rfl,rfl,rfl,LY⟩:=hcut;clear HSl Hd
      by_cases h0:cd=0
      ·subst h0;have d0:((0:Int) != 0)=false:=rfl;have P3:Hid (Of N w0 wc c a q Z s L b o):=Za ((LY.out.drop ZQ).drop ZQ);have k1:=Of.k1 P3.out HN.out;have HB3:=Za (LY.out.blkAt (r:=N+3) ZQ Ze xput_same);have hu:=HC.out.2.1.fits u (QI HV.out.2.1);have hsb:=AK (v:=u) s.ep c HR.out.2.1;rw [HR.out.1,HR.out.2.2] at hsb;have Ds:=TB (v:=u) (e:=s.ep) (c:=c) hu HR.out.2.1;rw [HR.out.1] at Ds;have ham:0≤am:=by
        have h1:=LL c hu;have h2:=HR.out.2.2;unfold tW at h2;rw [if_pos HR.out.2.1] at h2;omega
       have hr2b:=(bounds_u64 Ds.1).1;have hbt:=kM HC.out.2.1.fits HV.out.2.1;have bB:=HC.out.2.1.total HC.out.1;have EU:=HC.out.2.1.sum;have HBu:Hid (∀m,Zi Zb 127 #[.pointer (some ⟨q.e,21,none⟩),.int .i64 o.ix,.agg (Zd r2),.int .u64 am] (wc.drewN m) fun e w'=>e= .returned (.tuple #[])∧Eg (N+2+1+1) w0 w' c a q (ZI (ZI (ZI (ZI Z N (YR b 37 (ZJ o))) (N+1) (YR (b+1) 42 (Zz Gb))) (N+2) (YR zb 63 (Zd u))) (N+3) (YR zs 63 (Zd r2))) { s with V:=s.V.set n r2,B:=s.B+am} L):=Za (fun m=>by
        have:=ZeO (LY.out.drewN m) HV.out.2.1 Ds Ze (Inv.fits06 HC.out.1 HC.out.2.1) ham (x:=am) Ze;rw [←HV.out.1] at this;exact this)
       have hS:M8 c s o.ix= { s with V:=s.V.set n r2,B:=s.B+am,F:=if u.st=2 then s.F++[o.ix] else s.F}:=by
        unfold M8;rw [HV.out.2.2,HR.out.1,HR.out.2.2,HV.out.1];rfl
       have HS:=Za hS;have nF:Hid (Rj c s o=(Fj s o.kd o.ix (-1),M8 c s o.ix)∧cX c s o L=L++xV c s o.ix):=Za ⟨xW ze.out,by unfold cX; rw [if_pos ze.out]⟩;have kA:Hid (Tm c (M8 c s o.ix)):=Za ⟨HT.out.b0,HT.out.b1,HT.out.l,HT.out.q⟩;clear hu hsb Ds ham hr2b hbt bB EU hS P3 LY;go_wp2_with fail;refine Bj 7 ?_;simp only [qT,qD];iterate 5 (go_big_quiet_step ((intros; rfl)))
       refine Qg 63 _ zs 63 (Zd r2) _ rfl rfl rfl (fun w' h=>by obtain ⟨m,rfl⟩:=h; exact HB3.out) Zs rfl Yo ?_;simp only [qB];iterate 1 (go_big_quiet_step ((intros; rfl)))
       refine Zj ?_;intro _ Jw;obtain ⟨nr,Xl⟩:=Jw;subst Xl;clear HB3 k1;go_wp2_with fail;refine (HBu.out nr).mono ?_;rintro e w4 ⟨rfl,h4⟩;have PJ:=Za h4;clear h4 HBu;have PK:Hid (Of N w0 w4 c a q Z { s with V:=s.V.set n r2,B:=s.B+am} L b o):=Za ((PJ.out.drop ZQ).drop ZQ);have y1:w4.cell? ⟨zb,1,none⟩=some (.int .i64 u.st):=(PJ.out.blkAt (r:=N+2) ZQ Ze Ua).cell 1;have k1:=Of.k1 PK.out HN.out
       by_cases h2:u.st=2
       ·have d2:(u.st==2)=true:=by simp [h2]
        have x24:=Eg.x24 PJ.out;have nX:cX c s o L=L:=by rw [nF.out.2]; unfold xV; rw [HV.out.2.2,if_neg Ze,XL]
        have Wl:Hid (Rj c s o=(Fj s o.kd o.ix (-1),M8 c s o.ix)∧cX c s o L=L):=Za ⟨nF.out.1,nX⟩;have DU:Hid (M8 c s o.ix= { s with V:=s.V.set n r2,B:=s.B+am,F:=s.F++[o.ix]}):=Za (by rw [HS.out,if_pos h2]);have od:=Za (HF6.out h2);clear nX h2 HS HF6 nF PJ;go_wp2_with fail;refine Bj 7 ?_;simp only [qT,qD];iterate 7 (go_big_quiet_step ((intros; rfl)))
        refine Zj ?_;intro _ Jw;obtain ⟨nr,Xl⟩:=Jw;subst Xl;clear k1 x24 y1;have WN:Hid (Zi Zb 128 #[.pointer (some ⟨a.n,0,none⟩),.int .i64 0,.int .i64 o.ix] (w4.drewN nr) fun e w'=>(∃r,e= .returned (.int .i64 r))∧Of N w0 w' c a q Z (M8 c s o.ix) L b o):=Za (by
         have hx:=Eg.drewN PK.out nr;obtain ⟨X,hX,VP,hh,hK,_⟩:=Eg.open hx;refine (hh.lpush hX VP 0 o.ix).mono fun e w' ⟨he,h1⟩=>⟨⟨_,he⟩,?_⟩
         have h2:=hK _ _ _ h1 rfl rfl;have e1:pushF (c 1).toNat s.F 0 o.ix=s.F++[o.ix]:=if_pos ⟨rfl,by have:=od.out; omega⟩;have e2:pushV (c 1).toNat s.W 0 o.ix=s.W:=if_neg ZO;rw [DU.out];simp only [e1,e2] at h2;exact h2)
        clear PK;go_wp2_with fail;refine WN.out.mono ?_;rintro e w13 ⟨⟨r13,rfl⟩,lL⟩;have HD:=Za lL;have HE:=Wl;clear lL WN Wl DU HV HC od HR ze;have Vv:=Za (Km HD.out HN.out);have lZ:=Of.k1 HD.out HN.out;go_wp2_with (first | (refine Zn rfl 37 _ rfl b rfl 37 _ (0,0) _ Vv.out ZS rfl XV ?_));refine (DW (N:=N+2) HD.out kA.out o o.ix (-1)).mono ?_;rintro e w9 ⟨rfl,h9⟩;have H9:Hid (Of N w0 w9 c a q Z (M8 c s o.ix) L b o):=Za h9;have Vs:=Za (VS h9 HN.out);clear h9 Vv HD lZ;go_wp2_with (first | (refine Zm rfl _ _ _ rfl (b+1) (Zz (Bn o.kd o.ix (-1) s.bk s.ep)) rfl rfl 42 _ Vs.out YS rfl (YC _) ?_));exact ZL (v:= .agg (Zz (Bn o.kd o.ix (-1) s.bk s.ep))) (ZU (fn:=Tryz.f86) rfl _ _ (b+1) 42 _ (0,0) _ rfl (Yc _ _ _ _ _ _ Vs.out) Yf rfl YS) rfl (Zl JP KH)
       ·have d2:(u.st==2)=false:=by simp [h2]
        have DU:Hid (M8 c s o.ix= { s with V:=s.V.set n r2,B:=s.B+am}):=Za (by rw [HS.out,if_neg h2]);clear HS
        by_cases h5:u.st=5
        ·have d5:(u.st==5)=true:=by simp [h5]
         have nX:cX c s o L=L++[(r2.wd,o.ix)]:=by rw [nF.out.2]; unfold xV; rw [HV.out.2.2,if_pos h5,HR.out.1]
         have Wl:Hid (Rj c s o=(Fj s o.kd o.ix (-1),M8 c s o.ix)∧cX c s o L=L++[(r2.wd,o.ix)]):=Za ⟨nF.out.1,nX⟩;have hvk:=HC.out.2.1.vok u (QI HV.out.2.1);have hsi:=NQ (v:=u) (e:=s.ep) (c:=c) HR.out.2.1;have fc:r2.wd=max u.wd (s.ep+c 11):=by rw [←HR.out.1]; exact hsi.2.2.2.1
         have hw5:=hvk.s5 h5;have bq:=HC.out.2.1.ep0;have vW:=HC.out.2.1.ep1;have he2:=HC.out.2.1.bk1;have dH:=HC.out.2.2.1;have Pg:=HC.out.1.gc.sd0;have I0:=HC.out.1.gc.sd1;have yX:Hid (∀m,Zi Zb 129 #[.pointer (some ⟨q.e,24,none⟩),.int .i64 o.ix,.agg (Zd r2)] (w4.drewN m) fun e w'=>e= .returned (.tuple #[])∧Of N w0 w' c a q Z (M8 c s o.ix) (L++[(r2.wd,o.ix)]) b o):=Za (fun m=>by
          have:=pf (Eg.drewN PK.out m) (i:=o.ix) (v:=r2) Ze Ze HC.out.2.2.2.2;rw [DU.out];exact this)
         have HB4:=Za (PJ.out.blkAt (r:=N+3) ZQ Ze xput_same);clear nX hvk hsi fc hw5 bq vW he2 dH Pg I0 DU nF PJ PK h5 h2;go_wp2_with fail;refine Bj 6 ?_;simp only [qT,qD];iterate 5 (go_big_quiet_step ((intros; rfl)))
         refine Qg 63 _ zs 63 (Zd r2) _ rfl rfl rfl (fun w' h=>by obtain ⟨m,rfl⟩:=h; exact HB4.out) Zs rfl Yo ?_;simp only [qB];refine Zj ?_;intro _ Jw;obtain ⟨nr,Xl⟩:=Jw;subst Xl;clear k1 y1 HB4;go_wp2_with fail;refine (yX.out nr).mono ?_;rintro e w13 ⟨rfl,lL⟩;have HD:=Za lL;have HE:=Wl;clear lL yX Wl HV HC HR ze HF6;have Vv:=Za (Km HD.out HN.out);have lZ:=Of.k1 HD.out HN.out;go_wp2_with (first | (refine Zn rfl 37 _ rfl b rfl 37 _ (0,0) _ Vv.out ZS rfl XV ?_));refine (DW (N:=N+2) HD.out kA.out o o.ix (-1)).mono ?_;rintro e w9 ⟨rfl,h9⟩;have H9:Hid (Of N w0 w9 c a q Z (M8 c s o.ix) (L++[(r2.wd,o.ix)]) b o):=Za h9;have Vs:=Za (VS h9 HN.out);clear h9 Vv HD lZ;go_wp2_with (first | (refine Zm rfl _ _ _ rfl (b+1) (Zz (Bn o.kd o.ix (-1) s.bk s.ep)) rfl rfl 42 _ Vs.out YS rfl (YC _) ?_));exact ZL (v:= .agg (Zz (Bn o.kd o.ix (-1) s.bk s.ep))) (ZU (fn:=Tryz.f86) rfl _ _ (b+1) 42 _ (0,0) _ rfl (Yc _ _ _ _ _ _ Vs.out) Yf rfl YS) rfl (Zl JP KH)
        ·have d5:(u.st==5)=false:=by simp [h5]
         have nX:cX c s o L=L:=by rw [nF.out.2]; unfold xV; rw [HV.out.2.2,if_neg h5,XL]
         have Wl:Hid (Rj c s o=(Fj s o.kd o.ix (-1),M8 c s o.ix)∧cX c s o L=L):=Za ⟨nF.out.1,nX⟩;have HD:Hid (Of N w0 w4 c a q Z (M8 c s o.ix) L b o):=Za (by rw [DU.out]; exact PK.out);clear nX DU nF PJ PK h5 h2;have HE:=Wl;clear Wl HV HC HR ze HF6;have Vv:=Za (Km HD.out HN.out);have lZ:=Of.k1 HD.out HN.out;go_wp2_with (first | (refine Zn rfl 37 _ rfl b rfl 37 _ (0,0) _ Vv.out ZS rfl XV ?_));refine (DW (N:=N+2) HD.out kA.out o o.ix (-1)).mono ?_;rintro e w9 ⟨rfl,h9⟩;have H9:Hid (Of N w0 w9 c a q Z (M8 c s o.ix) L b o):=Za h9;have Vs:=Za (VS h9 HN.out);clear h9 Vv HD lZ;go_wp2_with (first | (refine Zm rfl _ _ _ rfl (b+1) (Zz (Bn o.kd o.ix (-1) s.bk s.ep)) rfl rfl 42 _ Vs.out YS rfl (YC _) ?_));exact ZL (v:= .agg (Zz (Bn o.kd o.ix (-1) s.bk s.ep))) (ZU (fn:=Tryz.f86) rfl _ _ (b+1) 42 _ (0,0) _ rfl (Yc _ _ _ _ _ _ Vs.out) Yf rfl YS) rfl (Zl JP KH)
      ·have dk:(cd != 0)=true:=by simp [h0]
       have Wl:Hid (Rj c s o=(UN s o.kd cd,s)∧cX c s o L=L):=Za ⟨gJ ze.out h0,by unfold cX; rw [ze.out,if_neg h0]⟩;have HD:Hid (Of N w0 wc c a q Z s L b o):=Za ((LY.out.drop ZQ).drop ZQ);have HE:=Wl;clear Wl HV HC HR ze HF6 LY h0;have Vv:=Za (Km HD.out HN.out);go_wp2_with (first | (refine Zn rfl 37 _ rfl b rfl 37 _ (0,0) _ Vv.out ZS rfl XV ?_));refine (Vf (N:=N+2) HD.out HT.out o cd).mono ?_;rintro e w9 ⟨rfl,h9⟩;have H9:Hid (Of N w0 w9 c a q Z s L b o):=Za h9;have Vs:=Za (VS h9 HN.out);clear h9 Vv HD;go_wp2_with (first | (refine Zm rfl _ _ _ rfl (b+1) (Zz (VN o.kd cd s.bk s.ep)) rfl rfl 42 _ Vs.out YS rfl (YC _) ?_));exact ZL (v:= .agg (Zz (VN o.kd cd s.bk s.ep))) (ZU (fn:=Tryz.f86) rfl _ _ (b+1) 42 _ (0,0) _ rfl (Yc _ _ _ _ _ _ Vs.out) Yf rfl YS) rfl (Zl JP KH)
end
end
section
open Go Go.RowKit Go.Deep
section
variable {N:Nat} {w0:Ez} {w w' w1:Zc} {c:Nat→Int} {a:Pl} {q:Ql} {Z:Nat→Zc→(Nat→Prop)→Prop} {s s':Sg} {L L':List QO} {k:Nat}
theorem oX {o:Oq}{kk:Int}(h:nJ c s (o.ix,o.tg)=kk)(hk:kk≠0) :IX c s o=(UN s o.kd kk,s):=by unfold IX; rw [h,if_neg hk]
theorem vo {o:Oq}(h:nJ c s (o.ix,o.tg)=0) :IX c s o=(Fj s o.kd o.ix (-1),{ s with mg:=s.mg++[(o.ix,o.tg)]}):=by unfold IX; rw [if_pos h]
theorem rv {o:Oq}{kk:Int}(h:ru c s ⟨o.ix,o.am⟩=kk)(hk:kk≠0) :I2 c s o=(UN s o.kd kk,s):=by unfold I2; rw [h,if_neg hk]
theorem xf {o:Oq}(h:ru c s ⟨o.ix,o.am⟩=0) :I2 c s o=(Fj s o.kd o.ix (-1),{ s with pt:=s.pt++[⟨o.ix,o.am⟩]}):=by unfold I2; rw [if_pos h]
theorem Eg.all (h:Eg N w0 w c a q Z s L) :Zi Zb 55 #[.pointer (some ⟨a.r,0,none⟩)] w fun e w'=> ∃v,e= .returned v∧Eg (N+1) w0 w' c a q (ZI Z N (YP 63 7 v s.V.length (XC s.V))) s L∧Zt w.heap.size w w':=by
 obtain ⟨X,hX,VP,hh,_,hK,_⟩:=h.open;refine (hh.all hX VP).mono fun e w' ⟨v,he,h1,h2⟩=>⟨v,he,hK _ _ _ _ h1 stays_row rfl rfl,h2⟩
theorem Eg.lst (h:Eg N w0 w c a q Z s L){r:Nat}(Gj:11≤r)(hr:r < N){v:Value}{V:List Yd}(hx:Z r=YP 63 7 v V.length (XC V)) : ∃b cp,v= .slice b V.length cp∧Dj w (fun _=>False) b V:=by
 have ho:=h.row Gj hr hx;obtain ⟨b,cp,rfl,_⟩:=Ut ho;exact ⟨b,cp,rfl,DC ho (fun _ _ h=>h)⟩
theorem CC (hc:GE c)(hi:Inv c k s)(hk:k≤1000000)(h:Eg N w0 w c a q Z s L)(o:Oq)(ho:Kg o) :Zi Zb 87 #[.pointer (some ⟨q.e,0,none⟩),.agg (ZJ o)] w (uQ N w0 c a q Z (IX c s o) L):=by
 have hN:=h.low;have hO:=Dz h o;have HT:=Za (hi.tm hc hk);have HN:=Za hN;have HC:=Za (Zl hc (Zl hi (Zl hk ho)));clear hc hi hk ho hN h;go_enter Tryz.func87,Tryz.ntmps87;go_upto_region 1 with (fail);generalize hW:(w.alloc (.cells (ZJ o) 37)).alloc (.cells _ 42)=W;have eW:(w.alloc (.cells (ZJ o) 37)).alloc (.cells (Zz Gb) 42)=W:=hW;rw [eW] at hO;generalize w.heap.size=b at*;have HO:=Za hO;clear hW eW hO;obtain ⟨kk,qe⟩ : ∃kk,Db s.V (o.ix,o.tg) (c 6)=kk:=⟨_,rfl⟩;have HK:=Za qe;clear qe;refine PG (fun w'=>Of N w0 w' c a q Z s L b o) 3 [0,1,2,3,4,6,7,8,9,10,11,12,13] (?_) ?_
 ·exact KL HO.out
 simp only [qF,qH];show ZB _ _ _ _ [_,_,_,_,_,_,_,_,_,_,_,_,_] _;iterate 4 (go_big_quiet_step ((intros; rfl)))
 refine Yw _ _ ⟨q.e,21,none⟩ (.pointer (some ⟨a.r,0,none⟩)) rfl rfl rfl (fun w h=>by simp [go_sem,h]) (fun w h=>Eg.x21 h) ?_;simp only [qB];iterate 1 (go_big_quiet_step ((intros; rfl)))
 refine Yw _ _ ⟨b,1,none⟩ (.int .i64 o.ix) rfl rfl rfl (fun w h=>by simp [go_sem,h]) (fun w h=>Of.k1 h HN.out) ?_;simp only [qB];iterate 1 (go_big_quiet_step ((intros; rfl)))
 refine Yw _ _ ⟨b,2,none⟩ (.int .i64 o.tg) rfl rfl rfl (fun w h=>by simp [go_sem,h]) (fun w h=>Of.k2 h HN.out) ?_;simp only [qB];iterate 3 (go_big_quiet_step ((intros; rfl)))
 refine DE 24 _ q.e 0 (Zk c).toList _ rfl rfl rfl (fun w h=>LF (Eg.blk h)) ZC rfl Xn ?_;refine Zj ?_;have Wb:Hid (Of N w0 W.drew c a q Z s L b o):=Za (KL HO.out);clear HO;generalize W.drew=V at*;refine Qt (i:=5) ?_;refine JM #[.pointer (some ⟨a.r,0,none⟩)] Tryz.call55 ((Eg.all Wb.out).mono ?_);rintro e w2 ⟨v,rfl,h2,Gk⟩;have Oi:Hid (Of N w0 w2 c a q Z s L b o):=Za (Eg.below Wb.out Gk);have HRq:Hid (Zi Zb 130 #[v,.int .i64 o.ix,.int .i64 o.tg,.agg (Zk c)] w2 fun e w'=>e= .returned (.int .i64 kk)∧Zt w2.heap.size w2 w'):=Za (by
  obtain ⟨ab,cp,rfl,hl⟩:=h2.lst (r:=N+2) ZQ Ze xput_same;have:=DG (fun _=>False) ab s.V cp (o.ix,o.tg) c w2 hl HC.out.2.1.fits;rw [HK.out] at this;exact this)
 refine ⟨_,rfl,Oi.out,?_⟩;clear h2 Gk Wb;refine Qt (i:=14) ?_;try simp only [qA]
 refine JM #[v,.int .i64 o.ix,.int .i64 o.tg,.agg (Zk c)] Tryz.call130 ((HRq.out).mono ?_);rintro e w3 ⟨rfl,hb3⟩;have P3:Hid (Of N w0 w3 c a q Z s L b o):=Za (Eg.below Oi.out hb3);refine ⟨_,rfl,P3.out,?_⟩;clear HRq Oi hb3;try simp only [qA]
 refine FR (fun w'=>Of N w0 w' c a q Z s L b o) (m:=1) (f:=0) [15] (?_) ?_
 ·exact P3.out
 simp only [qF,qH];show ZB _ _ _ _ [_] _;iterate 1 (go_big_quiet_step ((intros; rfl)))
 refine Zj ?_;refine ⟨by kernel_rfl,ZH ?_⟩;try simp only [qA]
 by_cases h0:kk=0
 ·subst h0;have d0:((0:Int) != 0)=false:=rfl;go_wp2_with fail
  by_cases h6:c 1≤(s.mg.length:Int)
  ·have HE:Hid (IX c s o=(UN s o.kd 6,s)):=Za (oX (by unfold nJ; rw [HK.out,if_neg ZO,if_pos h6]) Xh);have WN:Hid (∀wx,Of N w0 wx c a q Z s L b o→Zi Zb 131 #[.pointer (some ⟨q.d,0,none⟩),.slice (some ⟨wx.heap.size,0,none⟩) 1 1] (wx.alloc (.cells (cellsP (o.ix,o.tg)) 73)) fun e w'=>e= .returned (.int .i64 0)∧Of N w0 w' c a q Z s L b o):=Za (fun wx hx=>Eg.mfull hx (o.ix,o.tg) h6);clear h6 HC HK;refine PG (fun w'=>Zy w' q.e 107 (Un c a q)∧Zy w' b 37 (ZJ o)) 3 [0,1,2,3,4,5,6,7,8,9] (?_) ?_
   ·exact ⟨(KL P3.out).blk,Km (KL P3.out) HN.out⟩
   simp only [qF,qH];show ZB _ _ _ _ [_,_,_,_,_,_,_,_,_,_] _;iterate 4 (go_big_quiet_step ((intros; rfl)))
   refine Yw _ _ ⟨q.e,28,none⟩ (.pointer (some ⟨q.d,0,none⟩)) rfl rfl rfl (fun w h=>by simp [go_sem,h]) (fun w h=>h.1.cell 28) ?_;simp only [qB];iterate 1 (go_big_quiet_step ((intros; rfl)))
   refine Yw _ _ ⟨b,1,none⟩ (.int .i64 o.ix) rfl rfl rfl (fun w h=>by simp [go_sem,h]) (fun w h=>h.2.cell 1) ?_;simp only [qB];iterate 1 (go_big_quiet_step ((intros; rfl)))
   refine Yw _ _ ⟨b,2,none⟩ (.int .i64 o.tg) rfl rfl rfl (fun w h=>by simp [go_sem,h]) (fun w h=>h.2.cell 2) ?_;simp only [qB];iterate 1 (go_big_quiet_step ((intros; rfl)))
   refine Zj ?_;have PK:Hid (Of N w0 w3.drew c a q Z s L b o):=Za (KL P3.out);clear P3;generalize w3.drew=V4 at*;refine Qt (i:=10) ?_;refine YE rfl rfl (Jq 48 73 _ (.agg #[.int .i64 0,.int .i64 0]) (.int .i64 o.ix) (.int .i64 o.tg) rfl rfl XB Yi ?_);refine ⟨⟨(Eg.blk PK.out).alloc _,(Km PK.out HN.out).alloc _⟩,?_⟩;refine Qt (i:=11) ?_;try simp only [qA]
   refine JM #[.pointer (some ⟨q.d,0,none⟩),.slice (some ⟨V4.heap.size,0,none⟩) 1 1] Tryz.call131 ((WN.out V4 PK.out).mono ?_);rintro e w5 ⟨rfl,h5⟩;refine ⟨_,rfl,⟨Eg.blk h5,Km h5 HN.out⟩,?_⟩;have HD:=Za h5;clear h5 WN PK;try simp only [qA]
   refine FR (fun w'=>Zy w' q.e 107 (Un c a q)∧Zy w' b 37 (ZJ o)) (m:=1) (f:=0) [12] (?_) ?_
   ·exact ⟨Eg.blk HD.out,Km HD.out HN.out⟩
   simp only [qF,qH];show ZB _ _ _ _ [_] _;iterate 1 (go_big_quiet_step ((intros; rfl)))
   refine Zj ?_;refine ⟨by kernel_rfl,ZH ?_⟩;try simp only [qA]
   have Vv:=Za (Km HD.out HN.out);go_wp2_with (first | (refine Zn rfl 37 _ rfl b rfl 37 _ (0,0) _ Vv.out ZS rfl XV ?_));refine (Vf (N:=N+2) HD.out HT.out o 6).mono ?_;rintro e w9 ⟨rfl,h9⟩;have H9:Hid (Of N w0 w9 c a q Z s L b o):=Za h9;have Vs:=Za (VS h9 HN.out);clear h9 Vv HD;go_wp2_with (first | (refine Zm rfl _ _ _ rfl (b+1) (Zz (VN o.kd 6 s.bk s.ep)) rfl rfl 42 _ Vs.out YS rfl (YC _) ?_));exact ZL (v:= .agg (Zz (VN o.kd 6 s.bk s.ep))) (ZU (fn:=Tryz.f87) rfl _ _ (b+1) 42 _ (0,0) _ rfl (Yc _ _ _ _ _ _ Vs.out) Yf rfl YS) rfl (Zl JP KH)
  ·have HE:Hid (IX c s o=(Fj s o.kd o.ix (-1),{ s with mg:=s.mg++[(o.ix,o.tg)]})):=Za (vo (by unfold nJ; rw [HK.out,if_neg ZO,if_neg h6]));have WN:Hid (∀wx,Of N w0 wx c a q Z s L b o→Zi Zb 131 #[.pointer (some ⟨q.d,0,none⟩),.slice (some ⟨wx.heap.size,0,none⟩) 1 1] (wx.alloc (.cells (cellsP (o.ix,o.tg)) 73)) fun e w'=>e= .returned (.int .i64 1)∧Of N w0 w' c a q Z { s with mg:=s.mg++[(o.ix,o.tg)]} L b o):=Za (fun wx hx=>Eg.mpush hx (o.ix,o.tg) Ze);have kA:Hid (Tm c { s with mg:=s.mg++[(o.ix,o.tg)]}):=Za ⟨HT.out.b0,HT.out.b1,HT.out.l,HT.out.q⟩;clear h6 HC HK;refine PG (fun w'=>Zy w' q.e 107 (Un c a q)∧Zy w' b 37 (ZJ o)) 3 [0,1,2,3,4,5,6,7,8,9] (?_) ?_
   ·exact ⟨(KL P3.out).blk,Km (KL P3.out) HN.out⟩
   simp only [qF,qH];show ZB _ _ _ _ [_,_,_,_,_,_,_,_,_,_] _;iterate 4 (go_big_quiet_step ((intros; rfl)))
   refine Yw _ _ ⟨q.e,28,none⟩ (.pointer (some ⟨q.d,0,none⟩)) rfl rfl rfl (fun w h=>by simp [go_sem,h]) (fun w h=>h.1.cell 28) ?_;simp only [qB];iterate 1 (go_big_quiet_step ((intros; rfl)))
   refine Yw _ _ ⟨b,1,none⟩ (.int .i64 o.ix) rfl rfl rfl (fun w h=>by simp [go_sem,h]) (fun w h=>h.2.cell 1) ?_;simp only [qB];iterate 1 (go_big_quiet_step ((intros; rfl)))
   refine Yw _ _ ⟨b,2,none⟩ (.int .i64 o.tg) rfl rfl rfl (fun w h=>by simp [go_sem,h]) (fun w h=>h.2.cell 2) ?_;simp only [qB];iterate 1 (go_big_quiet_step ((intros; rfl)))
   refine Zj ?_;have PK:Hid (Of N w0 w3.drew c a q Z s L b o):=Za (KL P3.out);clear P3;generalize w3.drew=V4 at*;refine Qt (i:=10) ?_;refine YE rfl rfl (Jq 48 73 _ (.agg #[.int .i64 0,.int .i64 0]) (.int .i64 o.ix) (.int .i64 o.tg) rfl rfl XB Yi ?_);refine ⟨⟨(Eg.blk PK.out).alloc _,(Km PK.out HN.out).alloc _⟩,?_⟩;refine Qt (i:=11) ?_;try simp only [qA]
   refine JM #[.pointer (some ⟨q.d,0,none⟩),.slice (some ⟨V4.heap.size,0,none⟩) 1 1] Tryz.call131 ((WN.out V4 PK.out).mono ?_);rintro e w5 ⟨rfl,h5⟩;refine ⟨_,rfl,⟨Eg.blk h5,Km h5 HN.out⟩,?_⟩;have HD:=Za h5;clear h5 WN PK;try simp only [qA]
   refine FR (fun w'=>Zy w' q.e 107 (Un c a q)∧Zy w' b 37 (ZJ o)) (m:=1) (f:=0) [12] (?_) ?_
   ·exact ⟨Eg.blk HD.out,Km HD.out HN.out⟩
   simp only [qF,qH];show ZB _ _ _ _ [_] _;iterate 1 (go_big_quiet_step ((intros; rfl)))
   refine Zj ?_;refine ⟨by kernel_rfl,ZH ?_⟩;try simp only [qA]
   have Vv:=Za (Km HD.out HN.out);have lZ:=Of.k1 HD.out HN.out;go_wp2_with (first | (refine Zn rfl 37 _ rfl b rfl 37 _ (0,0) _ Vv.out ZS rfl XV ?_));refine (DW (N:=N+2) HD.out kA.out o o.ix (-1)).mono ?_;rintro e w9 ⟨rfl,h9⟩;have H9:Hid (Of N w0 w9 c a q Z { s with mg:=s.mg++[(o.ix,o.tg)]} L b o):=Za h9;have Vs:=Za (VS h9 HN.out);clear h9 Vv HD lZ;go_wp2_with (first | (refine Zm rfl _ _ _ rfl (b+1) (Zz (Bn o.kd o.ix (-1) s.bk s.ep)) rfl rfl 42 _ Vs.out YS rfl (YC _) ?_));exact ZL (v:= .agg (Zz (Bn o.kd o.ix (-1) s.bk s.ep))) (ZU (fn:=Tryz.f87) rfl _ _ (b+1) 42 _ (0,0) _ rfl (Yc _ _ _ _ _ _ Vs.out) Yf rfl YS) rfl (Zl JP KH)
 ·have HE:Hid (IX c s o=(UN s o.kd kk,s)):=Za (oX (by unfold nJ; rw [HK.out,if_pos h0]) h0);have d0:(kk != 0)=true:=by simp [h0]
  clear HC HK h0;have HD:=P3;clear P3;have Vv:=Za (Km HD.out HN.out);go_wp2_with (first | (refine Zn rfl 37 _ rfl b rfl 37 _ (0,0) _ Vv.out ZS rfl XV ?_));refine (Vf (N:=N+2) HD.out HT.out o kk).mono ?_;rintro e w9 ⟨rfl,h9⟩;have H9:Hid (Of N w0 w9 c a q Z s L b o):=Za h9;have Vs:=Za (VS h9 HN.out);clear h9 Vv HD;go_wp2_with (first | (refine Zm rfl _ _ _ rfl (b+1) (Zz (VN o.kd kk s.bk s.ep)) rfl rfl 42 _ Vs.out YS rfl (YC _) ?_));exact ZL (v:= .agg (Zz (VN o.kd kk s.bk s.ep))) (ZU (fn:=Tryz.f87) rfl _ _ (b+1) 42 _ (0,0) _ rfl (Yc _ _ _ _ _ _ Vs.out) Yf rfl YS) rfl (Zl JP KH)
end
end
section
open Go Go.RowKit Go.Deep
section
variable {N:Nat} {w0:Ez} {w w' w1:Zc} {c:Nat→Int} {a:Pl} {q:Ql} {Z:Nat→Zc→(Nat→Prop)→Prop} {s s':Sg} {L L':List QO} {k:Nat}
theorem lB (hc:GE c)(hi:Inv c k s)(hk:k≤1000000)(h:Eg N w0 w c a q Z s L)(o:Oq)(ho:Kg o) :Zi Zb 88 #[.pointer (some ⟨q.e,0,none⟩),.agg (ZJ o)] w (uQ N w0 c a q Z (I2 c s o) L):=by
 have hN:=h.low;have hO:=Dz h o;have HT:=Za (hi.tm hc hk);have HN:=Za hN;have HC:=Za (Zl hc (Zl hi (Zl hk ho)));clear hc hi hk ho hN h;go_enter Tryz.func88,Tryz.ntmps88;go_upto_region 1 with (fail);generalize hW:(w.alloc (.cells (ZJ o) 37)).alloc (.cells _ 42)=W;have eW:(w.alloc (.cells (ZJ o) 37)).alloc (.cells (Zz Gb) 42)=W:=hW;rw [eW] at hO;generalize w.heap.size=b at*;have HO:=Za hO;clear hW eW hO;obtain ⟨r,hr⟩ : ∃r:Rq,(⟨o.ix,o.am⟩ :Rq)=r:=⟨_,rfl⟩;have hrc: #[ZX .i64 o.ix,ZX .u64 o.am]=ZG r:=by rw [←hr]; rfl
 obtain ⟨kk,qe⟩ : ∃kk,My s.V r=kk:=⟨_,rfl⟩;have HK:=Za (Zl qe hr);have k1:=Of.k1 HO.out HN.out;have k3:=Of.k3 HO.out HN.out;have HB:=Za (Eg.box HO.out (ZG r) 75);have HRC:=Za hrc;clear qe hr hrc;go_wp2_with (first | (refine Zm rfl _ _ _ rfl W.heap.size (ZG r) rfl (by rw [←HRC.out]; rfl) 75 _ (ZD W _) Qy rfl (Kn _) ?_; rw [Zu]));clear k1 k3 HO HRC;generalize W.heap.size=rb at*;generalize W.alloc (.cells (ZG r) 75)=W1 at*;try simp only [qA]
 refine PG (fun w'=>Eg (N+2+1) w0 w' c a q (ZI (ZI (ZI Z N (YR b 37 (ZJ o))) (N+1) (YR (b+1) 42 (Zz Gb))) (N+2) (YR rb 75 (ZG r))) s L) 3 [0,1,2,3,4,6] (?_) ?_
 ·exact HB.out.drew
 simp only [qF,qH];show ZB _ _ _ _ [_,_,_,_,_,_] _;iterate 4 (go_big_quiet_step ((intros; rfl)))
 refine Yw _ _ ⟨q.e,21,none⟩ (.pointer (some ⟨a.r,0,none⟩)) rfl rfl rfl (fun w h=>by simp [go_sem,h]) (fun w h=>Eg.x21 h) ?_;simp only [qB];refine Qg 75 _ rb 75 (ZG r) _ rfl rfl rfl (fun w h=>VQ h (r:=N+2) ZQ Ze xput_same) Ye rfl Qy ?_;simp only [qB];refine Zj ?_;have TZ:=Za HB.out.drew;clear HB;generalize W1.drew=V at*;refine Qt (i:=5) ?_;refine JM #[.pointer (some ⟨a.r,0,none⟩)] Tryz.call55 ((Eg.all TZ.out).mono ?_);rintro e w2 ⟨v,rfl,h2,Gk⟩;have Hd:=Za (TZ.out.below Gk);have HRq:Hid (Zi Zb 132 #[v,.agg (ZG r)] w2 fun e w'=>e= .returned (.int .i64 kk)∧Zt w2.heap.size w2 w'):=Za (by
  obtain ⟨ab,cp,rfl,hl⟩:=h2.lst (r:=N+2+1) ZQ Ze xput_same;have:=Cz (fun _=>False) ab cp s.V r w2 hl;rw [HK.out.1] at this;exact this)
 refine ⟨_,rfl,Hd.out,?_⟩;clear h2 Gk TZ;refine Qt (i:=7) ?_;try simp only [qA]
 refine JM #[v,.agg (ZG r)] Tryz.call132 ((HRq.out).mono ?_);rintro e w3 ⟨rfl,hb3⟩;have LY:=Za (Hd.out.below hb3);refine ⟨_,rfl,LY.out,?_⟩;clear HRq Hd hb3;try simp only [qA]
 refine FR (fun w'=>Eg (N+2+1) w0 w' c a q (ZI (ZI (ZI Z N (YR b 37 (ZJ o))) (N+1) (YR (b+1) 42 (Zz Gb))) (N+2) (YR rb 75 (ZG r))) s L) (m:=1) (f:=0) [8] (?_) ?_
 ·exact LY.out
 simp only [qF,qH];show ZB _ _ _ _ [_] _;iterate 1 (go_big_quiet_step ((intros; rfl)))
 refine Zj ?_;refine ⟨by kernel_rfl,ZH ?_⟩;try simp only [qA]
 by_cases h0:kk=0
 ·subst h0;have d0:((0:Int) != 0)=false:=rfl;go_wp2_with fail
  by_cases h6:c 1≤(s.pt.length:Int)
  ·have HE:Hid (I2 c s o=(UN s o.kd 6,s)):=Za (rv (by unfold ru; rw [HK.out.2,HK.out.1,if_neg ZO,if_pos h6]) Xh);have WN:Hid (∀wx,Eg (N+2+1) w0 wx c a q (ZI (ZI (ZI Z N (YR b 37 (ZJ o))) (N+1) (YR (b+1) 42 (Zz Gb))) (N+2) (YR rb 75 (ZG r))) s L→Zi Zb 133 #[.pointer (some ⟨q.q,0,none⟩),.slice (some ⟨wx.heap.size,0,none⟩) 1 1] (wx.alloc (.cells (ZG r) 75)) fun e w'=>e= .returned (.int .i64 0)∧Eg (N+2+1) w0 w' c a q (ZI (ZI (ZI Z N (YR b 37 (ZJ o))) (N+1) (YR (b+1) 42 (Zz Gb))) (N+2) (YR rb 75 (ZG r))) s L):=Za (fun wx hx=>Eg.tfull hx r h6);clear h6 HC HK;refine PG (fun w'=>Zy w' q.e 107 (Un c a q)∧Zy w' rb 75 (ZG r)) 3 [0,1,2,3,4,5] (?_) ?_
   ·exact Zag
   simp only [qF,qH];show ZB _ _ _ _ [_,_,_,_,_,_] _;iterate 4 (go_big_quiet_step ((intros; rfl)))
   refine Yw _ _ ⟨q.e,29,none⟩ (.pointer (some ⟨q.q,0,none⟩)) rfl rfl rfl (fun w h=>by simp [go_sem,h]) (fun w h=>h.1.cell 29) ?_;simp only [qB];refine Qg 75 _ rb 75 (ZG r) _ rfl rfl rfl (fun w h=>h.2) Ye rfl Qy ?_;simp only [qB];refine Zj ?_;have PJ:=Za LY.out.drew;clear LY;generalize w3.drew=V4 at*;refine Qt (i:=6) ?_;refine YE rfl rfl (Jq 49 75 _ (.agg #[.int .i64 0,.int .u64 0]) (.int .i64 r.ix) (.int .u64 r.am) rfl rfl Xt Yi ?_);refine ⟨⟨PJ.out.blk.alloc _,(PJ.out.blkAt (r:=N+2) ZQ Ze xput_same).alloc _⟩,?_⟩;refine Qt (i:=7) ?_;try simp only [qA]
   refine JM #[.pointer (some ⟨q.q,0,none⟩),.slice (some ⟨V4.heap.size,0,none⟩) 1 1] Tryz.call133 ((WN.out V4 PJ.out).mono ?_);rintro e w5 ⟨rfl,h5⟩;refine ⟨_,rfl,⟨Eg.blk h5,VQ h5 (r:=N+2) ZQ Ze xput_same⟩,?_⟩;have Wk:=Za h5;clear h5 WN PJ;try simp only [qA]
   refine FR (fun w'=>Zy w' q.e 107 (Un c a q)∧Zy w' rb 75 (ZG r)) (m:=1) (f:=0) [8] (?_) ?_
   ·exact Zar
   simp only [qF,qH];show ZB _ _ _ _ [_] _;iterate 1 (go_big_quiet_step ((intros; rfl)))
   refine Zj ?_;refine ⟨by kernel_rfl,ZH ?_⟩;try simp only [qA]
   have HD:Hid (Of N w0 w5 c a q Z s L b o):=Za (Wk.out.drop ZQ);clear Wk;have Vv:=Za (Km HD.out HN.out);go_wp2_with (first | (refine Zn rfl 37 _ rfl b rfl 37 _ (0,0) _ Vv.out ZS rfl XV ?_));refine (Vf (N:=N+2) HD.out HT.out o 6).mono ?_;rintro e w9 ⟨rfl,h9⟩;have H9:Hid (Of N w0 w9 c a q Z s L b o):=Za h9;have Vs:=Za (VS h9 HN.out);clear h9 Vv HD;go_wp2_with (first | (refine Zm rfl _ _ _ rfl (b+1) (Zz (VN o.kd 6 s.bk s.ep)) rfl rfl 42 _ Vs.out YS rfl (YC _) ?_));exact ZL (v:= .agg (Zz (VN o.kd 6 s.bk s.ep))) (ZU (fn:=Tryz.f88) rfl _ _ (b+1) 42 _ (0,0) _ rfl (Yc _ _ _ _ _ _ Vs.out) Yf rfl YS) rfl (Zl JP KH)
  ·have HE:Hid (I2 c s o=(Fj s o.kd o.ix (-1),{ s with pt:=s.pt++[r]})):=Za (by rw [←HK.out.2]; exact xf (by unfold ru; rw [HK.out.2,HK.out.1,if_neg ZO,if_neg h6]));have WN:Hid (∀wx,Eg (N+2+1) w0 wx c a q (ZI (ZI (ZI Z N (YR b 37 (ZJ o))) (N+1) (YR (b+1) 42 (Zz Gb))) (N+2) (YR rb 75 (ZG r))) s L→Zi Zb 133 #[.pointer (some ⟨q.q,0,none⟩),.slice (some ⟨wx.heap.size,0,none⟩) 1 1] (wx.alloc (.cells (ZG r) 75)) fun e w'=>e= .returned (.int .i64 1)∧Eg (N+2+1) w0 w' c a q (ZI (ZI (ZI Z N (YR b 37 (ZJ o))) (N+1) (YR (b+1) 42 (Zz Gb))) (N+2) (YR rb 75 (ZG r))) { s with pt:=s.pt++[r]} L):=Za (fun wx hx=>Eg.tpush hx r Ze);have kA:Hid (Tm c { s with pt:=s.pt++[r]}):=Za ⟨HT.out.b0,HT.out.b1,HT.out.l,HT.out.q⟩;clear h6 HC HK;refine PG (fun w'=>Zy w' q.e 107 (Un c a q)∧Zy w' rb 75 (ZG r)) 3 [0,1,2,3,4,5] (?_) ?_
   ·exact Zag
   simp only [qF,qH];show ZB _ _ _ _ [_,_,_,_,_,_] _;iterate 4 (go_big_quiet_step ((intros; rfl)))
   refine Yw _ _ ⟨q.e,29,none⟩ (.pointer (some ⟨q.q,0,none⟩)) rfl rfl rfl (fun w h=>by simp [go_sem,h]) (fun w h=>h.1.cell 29) ?_;simp only [qB];refine Qg 75 _ rb 75 (ZG r) _ rfl rfl rfl (fun w h=>h.2) Ye rfl Qy ?_;simp only [qB];refine Zj ?_;have PJ:=Za LY.out.drew;clear LY;generalize w3.drew=V4 at*;refine Qt (i:=6) ?_;refine YE rfl rfl (Jq 49 75 _ (.agg #[.int .i64 0,.int .u64 0]) (.int .i64 r.ix) (.int .u64 r.am) rfl rfl Xt Yi ?_);refine ⟨⟨PJ.out.blk.alloc _,(PJ.out.blkAt (r:=N+2) ZQ Ze xput_same).alloc _⟩,?_⟩;refine Qt (i:=7) ?_;try simp only [qA]
   refine JM #[.pointer (some ⟨q.q,0,none⟩),.slice (some ⟨V4.heap.size,0,none⟩) 1 1] Tryz.call133 ((WN.out V4 PJ.out).mono ?_);rintro e w5 ⟨rfl,h5⟩;refine ⟨_,rfl,⟨Eg.blk h5,VQ h5 (r:=N+2) ZQ Ze xput_same⟩,?_⟩;have Wk:=Za h5;clear h5 WN PJ;try simp only [qA]
   refine FR (fun w'=>Zy w' q.e 107 (Un c a q)∧Zy w' rb 75 (ZG r)) (m:=1) (f:=0) [8] (?_) ?_
   ·exact Zar
   simp only [qF,qH];show ZB _ _ _ _ [_] _;iterate 1 (go_big_quiet_step ((intros; rfl)))
   refine Zj ?_;refine ⟨by kernel_rfl,ZH ?_⟩;try simp only [qA]
   have HD:Hid (Of N w0 w5 c a q Z { s with pt:=s.pt++[r]} L b o):=Za (Wk.out.drop ZQ);clear Wk;have Vv:=Za (Km HD.out HN.out);have lZ:=Of.k1 HD.out HN.out;go_wp2_with (first | (refine Zn rfl 37 _ rfl b rfl 37 _ (0,0) _ Vv.out ZS rfl XV ?_));refine (DW (N:=N+2) HD.out kA.out o o.ix (-1)).mono ?_;rintro e w9 ⟨rfl,h9⟩;have H9:Hid (Of N w0 w9 c a q Z { s with pt:=s.pt++[r]} L b o):=Za h9;have Vs:=Za (VS h9 HN.out);clear h9 Vv HD lZ;go_wp2_with (first | (refine Zm rfl _ _ _ rfl (b+1) (Zz (Bn o.kd o.ix (-1) s.bk s.ep)) rfl rfl 42 _ Vs.out YS rfl (YC _) ?_));exact ZL (v:= .agg (Zz (Bn o.kd o.ix (-1) s.bk s.ep))) (ZU (fn:=Tryz.f88) rfl _ _ (b+1) 42 _ (0,0) _ rfl (Yc _ _ _ _ _ _ Vs.out) Yf rfl YS) rfl (Zl JP KH)
 ·have HE:Hid (I2 c s o=(UN s o.kd kk,s)):=Za (rv (by unfold ru; rw [HK.out.2,HK.out.1,if_pos h0]) h0);have d0:(kk != 0)=true:=by simp [h0]
  have HD:Hid (Of N w0 w3 c a q Z s L b o):=Za (LY.out.drop ZQ);clear HC HK h0 LY;have Vv:=Za (Km HD.out HN.out);go_wp2_with (first | (refine Zn rfl 37 _ rfl b rfl 37 _ (0,0) _ Vv.out ZS rfl XV ?_));refine (Vf (N:=N+2) HD.out HT.out o kk).mono ?_;rintro e w9 ⟨rfl,h9⟩;have H9:Hid (Of N w0 w9 c a q Z s L b o):=Za h9;have Vs:=Za (VS h9 HN.out);clear h9 Vv HD;go_wp2_with (first | (refine Zm rfl _ _ _ rfl (b+1) (Zz (VN o.kd kk s.bk s.ep)) rfl rfl 42 _ Vs.out YS rfl (YC _) ?_));exact ZL (v:= .agg (Zz (VN o.kd kk s.bk s.ep))) (ZU (fn:=Tryz.f88) rfl _ _ (b+1) 42 _ (0,0) _ rfl (Yc _ _ _ _ _ _ Vs.out) Yf rfl YS) rfl (Zl JP KH)
end
end
section
open Go Go.RowKit Go.Deep
theorem Sc (f:Yd→Yd) : ∀(A B:List Nat) (V:List Yd),F9 f V (A++B)=F9 f (F9 f V A) B
 | [],_,_=>rfl
 | i::A,B,V=>Sc f A B _
theorem Nj {f:Yd→Yd}{V:List Yd}{F:List Nat}{k i:Nat}(hk:F[k]?=some i) :F9 f V (F.take (k+1))=(F9 f V (F.take k)).set i (f ((F9 f V (F.take k)).getD i Z9)):=by
 rw [YN,hk,Qr,Sc]; rfl
theorem mj {F:List Nat}(hn:F.Nodup){k i:Nat}(hk:F[k]?=some i) :i ∉ F.take k:=fun h=>by
 have hd:F.drop k=i::F.drop (k+1):=List.drop_eq_getElem?_toList_append .. |>.trans (by rw [hk]; rfl);rw [←List.take_append_drop k F,List.nodup_append] at hn;exact hn.2.2 i h i (by rw [hd]; simp) rfl
theorem Ni {f:Yd→Yd}{V:List Yd}{F:List Nat}(hn:F.Nodup)(hF: ∀i ∈ F,i < V.length){k i:Nat}(hk:F[k]?=some i) :(F9 f V (F.take k)).getD i Z9=V.getD i Z9:=by
 rw [ek f _ _ (hn.sublist (List.take_sublist _ _)) (fun j hj=>hF j (ZP hj)),if_neg (mj hn hk)]
theorem Sd {f:Yd→Yd}(hf: ∀v,Yq v→Yq (f v)∧(f v).bal=v.bal) : ∀(F:List Nat) (V:List Yd),(∀v ∈ V,Yq v)→(∀i ∈ F,i < V.length)→Fi V (F9 f V F)
 | [],V,h,_=>Fi.refl h
 | i::F,V,h,hF=>by
  have hi:=hF i ZO;have hv:V[i]?=some (V.getD i Z9):=by rw [Zq,Zf hi]; rfl
  have h0:=hf _ (h _ (QI hv));have h1:Fi V (V.set i (f (V.getD i Z9))):=(Fi.refl h).set hv h0.2 h0.1;have h2:=Sd hf F (V.set i (f (V.getD i Z9))) h1.2.2 (fun j hj=>by rw [Xw]; exact hF j LW);exact ⟨h2.1.trans h1.1,h2.2.1.trans h1.2.1,h2.2.2⟩
theorem TA {V:List Yd}{i:Nat}(h:i < V.length) :V.set i (V.getD i Z9)=V:=by
 rw [Zq,Zf h];exact List.set_getElem_self h
theorem l4 (e:Int)(v:Yd)(h:Yq v) :Yq (leaveV e v)∧(leaveV e v).bal=v.bal:=by
 unfold leaveV; split
 ·exact ⟨⟨h.1,rfl⟩,rfl⟩
 ·exact ⟨h,rfl⟩
theorem q3 (e:Int)(v:Yd)(h:v.st≠3) :leaveV e v=v:=if_neg fun hh=>h hh.1
theorem qZ {e:Int}{v:Yd}(h:v.st=3)(he:v.ex=e) :leaveV e v=Oc 3 v:=by
 unfold leaveV Oc;rw [if_pos ⟨h,he⟩,h]; rfl
section
variable {N:Nat} {w0:Ez} {w w' w1:Zc} {c:Nat→Int} {a:Pl} {q:Ql} {Z:Nat→Zc→(Nat→Prop)→Prop} {s s':Sg} {L L':List QO} {k:Nat}
theorem pq (h:Eg N w0 w c a q Z s L){i:Nat}{ev:Int}(hev:(Lit.int .i64 ev).wf=true)(hi:i < s.V.length)(hf: ∀v ∈ s.V,Yq v)(ht:ZA s.V≤18446744073709551615) :
  Zi Zb 214 #[.pointer (some ⟨q.e,21,none⟩),.int .i64 ev,.slice (some ⟨w.heap.size,0,none⟩) 1 1] (w.alloc (.cells #[.int .i64 (i:Int)] 3)) fun e w'=>e= .returned (.tuple #[])∧Eg N w0 w' c a q Z { s with V:=s.V.set i (Oc ev (s.V.getD i Z9))} L:=by
 have hN:=h.low;have h1:=h.box #[.int .i64 (i:Int)] 3;have h2:=h1.torow (r:=N) (k:=1) (n:=1) (xs:= [.int .i64 (i:Int)]) hN Ze xput_same rfl US;rw [Xg] at h2;refine (zo h2 (r:=N) (I:= [(i:Int)]) hN Ze xput_same hev (fun j hj=>?_) hf ht ZO).mono fun e w' ⟨he,h3⟩=>⟨he,h3.drop hN⟩
 rw [List.mem_singleton] at hj;exact ⟨i,hj,hi⟩
theorem Eg.get (h:Eg N w0 w c a q Z s L){n:Nat}(hn:n < s.V.length) :Zi Zb 70 #[.pointer (some ⟨a.r,0,none⟩),.int .i64 (n:Int)] w fun e w'=>e= .returned (.tuple #[.agg (Zd (s.V.getD n Z9)),.bool true])∧Zt w.heap.size w w':=by
 obtain ⟨X,hX,VP,hh,_⟩:=h.open;exact hh.get_in VP (by rw [Zq,Zf hn]; rfl)
theorem Zbo (h:Eg N w0 w c a q Z s L)(t:Tm c s)(hf: ∀v ∈ s.V,Yq v)(ht:ZA s.V≤18446744073709551615)(hl:s.V.length≤4096) :
  Zi Zb 209 #[.pointer (some ⟨q.e,0,none⟩)] w fun e w'=>e= .returned (.tuple #[])∧Eg N w0 w' c a q Z { s with V:=s.V.map (leaveV s.ep)} L:=by
 have hN:=h.low;obtain ⟨F,hF⟩ : ∃F,Lx s.V 3 s.V.length=F:=⟨_,rfl⟩;have HWi:=Za (zr h (st:=3) rfl Ze);rw [hF] at HWi;have hFn:F.Nodup:=by rw [←hF]; exact AX _ _ _
 have vO: ∀i ∈ F,i < s.V.length∧(s.V.getD i Z9).st=3:=fun i hi=>by rw [←hF] at hi; exact NB.1 hi
 have Me:F.length≤4096:=by
  rw [←hF]; unfold Lx; exact Nat.le_trans (JQ _ _) RD
 have Kj:F9 (leaveV s.ep) s.V F=s.V.map (leaveV s.ep):=by rw [←hF]; exact vl _ _ _ (q3 s.ep)
 have oh:Hid (∀k,Fi s.V (F9 (leaveV s.ep) s.V (F.take k))):=Za fun k=>Sd (l4 s.ep) _ _ hf fun i hi=>(vO i (ZP hi)).1
 have HX:=Za (Zl hFn (Zl vO (Zl Kj (Zl ht t))));have HN:=Za hN;clear h hf ht hl hN hF hFn vO Kj t;go_enter Tryz.func209,Tryz.ntmps209;go_wp2_with fail;refine HWi.out.mono ?_;rintro e w2 ⟨v,rfl,h2,_⟩;obtain ⟨ia,cp,rfl⟩:=XH (h2.row (r:=N) HN.out Ze xput_same);obtain ⟨m,hm⟩ : ∃m,F.length=m:=⟨_,rfl⟩;have HM:=Za hm;rw [hm] at h2 Me;have H2:=Za h2;rw [hm];clear HWi h2 hm;go_wp2_with fail;go_loopw [11] (fun s11 wr=> ∃(k:Nat),k≤m∧s11= .int .i64 k∧Hid (Eg (N+1) w0 wr c a q (ZI Z N (YP 3 1 (.slice ia m cp) m (F.map Lu))) { s with V:=F9 (leaveV s.ep) s.V (F.take k)} L)) (fun s11 _=>m -(intOf s11).toNat)
 case atStart=>exact ⟨0,by omega,rfl,H2⟩
 case round=>
  obtain ⟨k,hk,rfl,HE⟩:=hrel
  by_cases XJ:k < m
  ·obtain ⟨i,hi⟩ : ∃i,F[k]?=some i:=⟨_,Zf Rs⟩;obtain ⟨g,rfl,hc⟩:=Ir (HE.out.row (r:=N) HN.out Ze xput_same) (show (F.map Lu)[k]?=some (.int .i64 (i:Int)) by rw [ZR,hi]; rfl);have DY:=Nj (f:=leaveV s.ep) (V:=s.V) hi;have Al:=Ni (f:=leaveV s.ep) HX.out.1 (fun j hj=>(HX.out.2.1 j hj).1) hi;have Ml:=oh.out k;have EB:=(HX.out.2.1 i (ZE hi)).1;have Gm:=(HX.out.2.1 i (ZE hi)).2;obtain ⟨W,hW⟩ : ∃W,F9 (leaveV s.ep) s.V (F.take k)=W:=⟨_,rfl⟩;rw [hW] at HE DY Al Ml;obtain ⟨u,hu⟩ : ∃u,W.getD i Z9=u:=⟨_,rfl⟩;rw [hu] at DY;rw [←Al,hu] at Gm;have nM:i < W.length:=by rw [Ml.1]; exact EB
   have y0:wr.cell? ⟨q.e,21,none⟩=some (.pointer (some ⟨a.r,0,none⟩)):=Eg.x21 HE.out;have HG:=Za (HE.out.get (n:=i) (show i < W.length from nM));rw [show ({ s with V:=W} :Sg).V.getD i Z9=u from hu] at HG;have HU:=Za (Zl nM (Zl Gm (Zl Ml (Zl DY hu))));clear hi DY Al Ml EB Gm hW hu nM;go_wp2_with fail;refine HG.out.mono ?_;rintro e w3 ⟨rfl,hb⟩;have Gk:Zt wr.heap.size wr (w3.alloc (.cells (Zd u) 63)):=hb.alloc hb.size _;have E3:=Za (HE.out.below Gk);have y4:(w3.alloc (.cells (Zd u) 63)).cell? ⟨w3.heap.size,4,none⟩=some (.int .i64 u.ex):=(Zy.new w3 63 (Zd u)).cell 4;clear hb Gk HE HG y0;go_wp2_with (first | (refine Zm rfl _ _ _ rfl w3.heap.size (Zd u) rfl rfl 63 _ (ZD w3 _) Yo rfl (Yy _) ?_; rw [Zu]));generalize w3.heap.size=zb at*;generalize w3.alloc (.cells (Zd u) 63)=W3 at*;have uE:Hid (∀n,Zi Zb 54 #[.pointer (some ⟨q.e,20,none⟩)] (W3.drewN n) fun e w'=>e= .returned (.int .i64 s.ep)∧ ∃m,w'=(W3.drewN n).drewN m):=Za fun n=>Bc (s:= { s with V:=W}) (E3.out.drewN n) HX.out.2.2.2.2.b0 HX.out.2.2.2.2.b1 HX.out.2.2.2.2.l HX.out.2.2.2.2.q
   by_cases hex:u.ex=s.ep
   ·have d:(u.ex==s.ep)=true:=by simp [hex]
    go_quiet ((go_at_call 54; exact Qv (uE.out _)));have E4:=Za (E3.out.drewN nq);have ot:Hid (Zi Zb 214 #[.pointer (some ⟨q.e,21,none⟩),.int .i64 3,.slice (some ⟨(W3.drewN nq).heap.size,0,none⟩) 1 1] ((W3.drewN nq).alloc (.cells #[.int .i64 (i:Int)] 3)) fun e w'=>e= .returned (.tuple #[])∧Eg (N+1) w0 w' c a q (ZI Z N (YP 3 1 (.slice (some ⟨g,0,none⟩) m cp) m (F.map Lu))) { s with V:=F9 (leaveV s.ep) s.V (F.take (k+1))} L):=Za (by
     have Ml:=HU.out.2.2.1;have:=pq E4.out (i:=i) (ev:=3) rfl HU.out.1 Ml.2.2 jZ;refine this.mono fun e w' ⟨he,h5⟩=>⟨he,?_⟩
     rw [HU.out.2.2.2.1,qZ HU.out.2.1 hex,←HU.out.2.2.2.2];exact h5)
    clear E4 E3 y4 HU d;exact Zgq
   ·have d:(u.ex==s.ep)=false:=by simp [hex]
    go_quiet ((go_at_call 54; exact Qv (uE.out _)));have H6:Hid (Eg (N+1) w0 (W3.drewN nq) c a q (ZI Z N (YP 3 1 (.slice (some ⟨g,0,none⟩) m cp) m (F.map Lu))) { s with V:=F9 (leaveV s.ep) s.V (F.take (k+1))} L):=Za (by
     have e4:=E3.out.drewN nq;have e5:F9 (leaveV s.ep) s.V (F.take (k+1))=W:=by
      rw [HU.out.2.2.2.1,show leaveV s.ep u=u from if_neg fun hh=>hex hh.2,←HU.out.2.2.2.2,TA HU.out.1]
     rw [e5]; exact e4)
    clear E3 y4 HU;generalize W3.drewN nq=W4 at*;exact Zdv
  ·obtain rfl:k=m:=by omega
   clear XJ;have XJ: ¬k < k:=by omega
   have H7:Hid (Eg N w0 wr c a q Z { s with V:=s.V.map (leaveV s.ep)} L):=Za (by
    have:=HE.out;rw [Yn Ro,HX.out.2.2.1] at this;exact this.drop HN.out)
   exact kf
end
end
section
open Go Go.RowKit Go.Deep
def Lg (e:Int)(v:Yd) :Yd:=if v.wd≤e then Oc 4 v else v
theorem rU (e:Int)(v:Yd)(h:Yq v) :Yq (Lg e v)∧(Lg e v).bal=v.bal:=by
 unfold Lg; split
 ·exact ⟨St h,rfl⟩
 ·exact ⟨h,rfl⟩
def Ww (i:Nat) :Int:=(i:Int)
def iR (e:Int)(V:List Yd)(G:List Nat) :List QO:=(G.filter fun i=>decide (e < (V.getD i Z9).wd)).map fun i=>((V.getD i Z9).wd,(i:Int))
theorem rV (e:Int) : ∀(G:List Nat) (V:List Yd),(∀i ∈ G,i < V.length)→OK e V (G.map Ww)=F9 (Lg e) V G
 | [],_,_=>rfl
 | i::G,V,h=>by
  have hi:=h i ZO;rw [List.map_cons,OK,F9];have e1:(if(Vy V (Ww i)).wd≤e then V.set (Ww i).toNat (Oc 4 (Vy V (Ww i))) else V)=V.set i (Lg e (V.getD i Z9)):=by
   show (if(V.getD i Z9).wd≤e then V.set i (Oc 4 (V.getD i Z9)) else V)=_;unfold Lg
   split
   ·rfl
   ·exact (TA hi).symm
  rw [e1];exact rV e G _ fun j hj=>by rw [Xw]; exact h j LW
theorem ve (e:Int)(V:List Yd)(G:List Nat) :av e V (G.map Ww)=iR e V G:=by
 unfold av iR;rw [List.filter_map,KN];rfl
theorem oN {e:Int}{V:List Yd}{G:List Nat}{k i:Nat}(hk:G[k]?=some i) :iR e V (G.take (k+1))=iR e V (G.take k)++if e < (V.getD i Z9).wd then [((V.getD i Z9).wd,(i:Int))] else []:=by
 unfold iR;rw [YN,hk,Qr,List.filter_append,List.map_append]
 congr 1
 by_cases h:e < (V.getD i Z9).wd
 ·rw [if_pos h,JT,if_pos (decide_eq_true h)]; rfl
 ·rw [if_neg h,JT,if_neg (by rw [decide_eq_false h]; simp)]; rfl
theorem vf (e:Int)(V:List Yd)(G:List Nat) :(iR e V G).length≤G.length:=by
 unfold iR; rw [YM]; exact JQ _ _
section
variable {N:Nat} {w0:Ez} {w w' w1:Zc} {c:Nat→Int} {a:Pl} {q:Ql} {Z:Nat→Zc→(Nat→Prop)→Prop} {s s':Sg} {L L':List QO} {k:Nat}
theorem Eg.due (h:Eg N w0 w c a q Z s L){ep:Int}(h0:0≤ep)(h1:ep≤1099511627776)(hL:L.length≤100000) :
  Zi Zb 256 #[.pointer (some ⟨a.u,0,none⟩),.int .i64 ep] w fun e w'=> ∃v,e= .returned v∧Eg (N+1) w0 w' c a q (ZI Z N (YP 3 1 v (Vb ep L).length ((Vb ep L).map (ZX .i64)))) s (U4 ep L):=by
 obtain ⟨X,hX,VP,hh,_,hK,_⟩:=h.open;refine (hh.due hX VP h0 h1 hL).mono fun e w' ⟨v,he,g1,_⟩=>⟨v,he,hK _ _ _ _ g1 stays_row rfl rfl⟩
theorem Ziu (h:Eg N w0 w c a q Z s L)(t:Tm c s){F:List Nat}(hF:Vb s.ep L=F.map Ww)(hFn:F.Nodup)(vO: ∀i ∈ F,i < s.V.length)(hep:s.ep≤1099511627776)(bq:0≤s.ep)(fc: ∀v ∈ s.V,v.wd≤1099511627776)(CL:L.length≤90000)(hf: ∀v ∈ s.V,Yq v)(ht:ZA s.V≤18446744073709551615)(hl:s.V.length≤4096) :
  Zi Zb 210 #[.pointer (some ⟨q.e,0,none⟩)] w fun e w'=>e= .returned (.tuple #[])∧Eg N w0 w' c a q Z { s with V:=OK s.ep s.V (Vb s.ep L)} (Lf s.ep s.V L):=by
 have hN:=h.low;have Me:F.length≤4096:=by
  have h1:=List.Nodup.length_le_of_subset (l₂:=List.range s.V.length) hFn (fun i hi=>List.mem_range.2 (vO i hi));rw [List.length_range] at h1; omega
 have Kj:F9 (Lg s.ep) s.V F=OK s.ep s.V (Vb s.ep L):=by rw [hF]; exact (rV _ _ _ vO).symm
 have zC:U4 s.ep L++iR s.ep s.V F=Lf s.ep s.V L:=by unfold Lf; rw [hF,ve]
 have ZfD:(U4 s.ep L).length≤L.length:=by unfold U4; exact JQ _ _
 have oh:Hid (∀k,Fi s.V (F9 (Lg s.ep) s.V (F.take k))):=Za fun k=>Sd (rU s.ep) _ _ hf fun i hi=>vO i (ZP hi)
 have HX:=Za (Zl hFn (Zl vO (Zl Kj (Zl ht (Zl t (Zl zC (Zl fc (Zl bq (Zl (Nat.le_trans ZfD CL) (Zl hF (Zl hep CL)))))))))));have HN:=Za hN;have HH:=Za h;clear h hf ht hl hN hF hFn vO Kj t zC ZfD fc hep bq CL;go_enter Tryz.func210,Tryz.ntmps210;go_wp2_with fail;refine PG (fun w'=>Zy w' q.e 107 (Un c a q)) 3 [0,1,2,3,4,5,6,7,11] (?_) ?_
 ·exact HH.out.drew.blk
 simp only [qF,qH];show ZB _ _ _ _ [_,_,_,_,_,_,_,_,_] _;iterate 4 (go_big_quiet_step ((intros; rfl)))
 refine Yw _ _ ⟨q.e,26,none⟩ (.pointer (some ⟨a.u,0,none⟩)) rfl rfl rfl (fun w h=>by simp [go_sem,h]) (fun w h=>h.cell 26) ?_;simp only [qB];iterate 4 (go_big_quiet_step ((intros; rfl)))
 refine Zj ?_;have H0:=Za HH.out.drew;clear HH;generalize w.drew=V0 at*;refine Qt (i:=8) ?_;refine JM #[.pointer (some ⟨q.e,20,none⟩)] J5 ((Bc H0.out HX.out.2.2.2.2.1.b0 HX.out.2.2.2.2.1.b1 HX.out.2.2.2.2.1.l HX.out.2.2.2.2.1.q).mono ?_);rintro e w1 ⟨rfl,m1,rfl⟩;have H1:=Za (H0.out.drewN m1);refine ⟨_,rfl,H1.out.blk,?_⟩;clear H0;generalize V0.drewN m1=V1 at*;refine Qt (i:=9) ?_;try simp only [qA]
 refine JM #[.pointer (some ⟨a.u,0,none⟩),.int .i64 s.ep] Tryz.call256 ((H1.out.due HX.out.2.2.2.2.2.2.2.1 HX.out.2.2.2.2.2.2.2.2.2.2.1 (by have:=HX.out.2.2.2.2.2.2.2.2.2.2.2; omega)).mono ?_);rintro e w2 ⟨v,rfl,h2⟩;refine ⟨_,rfl,h2.blk,?_⟩;clear H1;rw [HX.out.2.2.2.2.2.2.2.2.2.1,YM,KN,show (ZX .i64 ∘ Ww)=Lu from rfl] at h2;obtain ⟨ia,cp,rfl⟩:=XH (h2.row (r:=N) HN.out Ze xput_same);obtain ⟨m,hm⟩ : ∃m,F.length=m:=⟨_,rfl⟩;have HM:=Za hm;rw [hm] at h2 Me;have H2:=Za h2;rw [hm];have VW:=Za h2.blk;clear h2 hm;try simp only [qA]
 refine FR (fun w'=>Zy w' q.e 107 (Un c a q)) (m:=1) (f:=0) [10] (?_) ?_
 ·exact VW.out
 simp only [qF,qH];show ZB _ _ _ _ [_] _;iterate 1 (go_big_quiet_step ((intros; rfl)))
 refine Zj ?_;clear VW;refine ⟨by kernel_rfl,ZH ?_⟩;try simp only [qA]
 go_wp2_with fail;go_loopw [17] (fun s17 wr=> ∃(k:Nat),k≤m∧s17= .int .i64 k∧Hid (Eg (N+1) w0 wr c a q (ZI Z N (YP 3 1 (.slice ia m cp) m (F.map Lu))) { s with V:=F9 (Lg s.ep) s.V (F.take k)} (U4 s.ep L++iR s.ep s.V (F.take k)))) (fun s17 _=>m -(intOf s17).toNat)
 case atStart=>exact ⟨0,by omega,rfl,Za (by rw [show iR s.ep s.V (F.take 0)=[] from rfl,XL]; exact H2.out)⟩
 case round=>
  obtain ⟨k,hk,rfl,HE⟩:=hrel
  by_cases XJ:k < m
  ·obtain ⟨i,hi⟩ : ∃i,F[k]?=some i:=⟨_,Zf Rs⟩;obtain ⟨g,rfl,hc⟩:=Ir (HE.out.row (r:=N) HN.out Ze xput_same) (show (F.map Lu)[k]?=some (.int .i64 (i:Int)) by rw [ZR,hi]; rfl);have DY:=Nj (f:=Lg s.ep) (V:=s.V) hi;have Al:=Ni (f:=Lg s.ep) HX.out.1 HX.out.2.1 hi;have hbk:=oN (e:=s.ep) (V:=s.V) hi;have Ml:=oh.out k;have EB:=HX.out.2.1 i (ZE hi);have nP:=vf s.ep s.V (F.take k);obtain ⟨W,hW⟩ : ∃W,F9 (Lg s.ep) s.V (F.take k)=W:=⟨_,rfl⟩;rw [hW] at HE DY Al Ml;obtain ⟨u,hu⟩ : ∃u,W.getD i Z9=u:=⟨_,rfl⟩;rw [hu] at DY;rw [←Al,hu] at hbk;have huw:u.wd≤1099511627776:=by rw [←hu,Al]; exact HX.out.2.2.2.2.2.2.1 _ jT
   have hLk:(U4 s.ep L++iR s.ep s.V (F.take k)).length≤100000:=by
    rw [List.length_append];have h1:=HX.out.2.2.2.2.2.2.2.2.1;rw [List.length_take] at nP;omega
   have nM:i < W.length:=by rw [Ml.1]; exact EB
   have y0:wr.cell? ⟨q.e,21,none⟩=some (.pointer (some ⟨a.r,0,none⟩)):=Eg.x21 HE.out;have HG:=Za (HE.out.get (n:=i) (show i < W.length from nM));rw [show ({ s with V:=W} :Sg).V.getD i Z9=u from hu] at HG;have HU:=Za (Zl nM (Zl (Zl huw hLk) (Zl Ml (Zl DY (Zl hu hbk)))));obtain ⟨Lk,bh⟩ : ∃Lk,U4 s.ep L++iR s.ep s.V (F.take k)=Lk:=⟨_,rfl⟩;have HLK:=Za bh;rw [bh] at HE;clear hi DY Al Ml EB hW hu nM hbk nP huw hLk bh;go_wp2_with fail;refine HG.out.mono ?_;rintro e w3 ⟨rfl,hb⟩;have Gk:Zt wr.heap.size wr (w3.alloc (.cells (Zd u) 63)):=hb.alloc hb.size _;have E3:=Za (HE.out.below Gk);have y4:(w3.alloc (.cells (Zd u) 63)).cell? ⟨w3.heap.size,5,none⟩=some (.int .i64 u.wd):=(Zy.new w3 63 (Zd u)).cell 5;have HB3:Hid (Zy (w3.alloc (.cells (Zd u) 63)) w3.heap.size 63 (Zd u)):=Za (Zy.new _ _ _);clear hb Gk HE HG y0;go_wp2_with (first | (refine Zm rfl _ _ _ rfl w3.heap.size (Zd u) rfl rfl 63 _ (ZD w3 _) Yo rfl (Yy _) ?_; rw [Zu]));generalize w3.heap.size=zb at*;generalize w3.alloc (.cells (Zd u) 63)=W3 at*;have uE:Hid (∀n,Zi Zb 54 #[.pointer (some ⟨q.e,20,none⟩)] (W3.drewN n) fun e w'=>e= .returned (.int .i64 s.ep)∧ ∃m,w'=(W3.drewN n).drewN m):=Za fun n=>Bc (s:= { s with V:=W}) (E3.out.drewN n) HX.out.2.2.2.2.1.b0 HX.out.2.2.2.2.1.b1 HX.out.2.2.2.2.1.l HX.out.2.2.2.2.1.q
   by_cases hex:s.ep < u.wd
   ·have d:decide (s.ep < u.wd)=true:=decide_eq_true hex;go_quiet ((go_at_call 54; exact Qv (uE.out _)));have E4:=Za (E3.out.drewN nq);have HB4:Hid (Zy (W3.drewN nq) zb 63 (Zd u)):=Za (HB3.out.drewN nq);clear E3 HB3 y4 d uE;generalize W3.drewN nq=W4 at*;go_wp2_with fail;refine Bj 5 ?_;simp only [qT,qD];iterate 4 (go_big_quiet_step ((intros; rfl)))
    refine Qg 63 _ zb 63 (Zd u) _ rfl rfl rfl (fun w' h=>by obtain ⟨m,rfl⟩:=h; exact HB4.out) Zs rfl Yo ?_;simp only [qB];refine Zj ?_;intro _ Jw;obtain ⟨nr,Xl⟩:=Jw;subst Xl;have yX:Hid (Zi Zb 129 #[.pointer (some ⟨q.e,24,none⟩),.int .i64 (i:Int),.agg (Zd u)] (W4.drewN nr) fun e w'=>e= .returned (.tuple #[])∧Eg (N+1) w0 w' c a q (ZI Z N (YP 3 1 (.slice (some ⟨g,0,none⟩) m cp) m (F.map Lu))) { s with V:=F9 (Lg s.ep) s.V (F.take (k+1))} (U4 s.ep L++iR s.ep s.V (F.take (k+1)))):=Za (by
     have h0:=HX.out.2.2.2.2.2.2.2.1;have:=pf (E4.out.drewN nr) (i:=(i:Int)) (v:=u) Ze HU.out.2.1.1 (by rw [←HLK.out]; exact HU.out.2.1.2);refine this.mono fun e w' ⟨he,h5⟩=>⟨he,?_⟩
     rw [HU.out.2.2.2.2.2,if_pos hex,←List.append_assoc,HLK.out];have e5:F9 (Lg s.ep) s.V (F.take (k+1))=W:=by
      rw [HU.out.2.2.2.1,show Lg s.ep u=u from if_neg Ze,←HU.out.2.2.2.2.1,TA HU.out.1]
     rw [e5];exact h5)
    clear E4 HB4 HU HLK;generalize W4.drewN nr=W5 at*;go_wp2_with fail;refine yX.out.mono ?_;rintro e w6 ⟨rfl,h6⟩;have H6:=Za h6;clear h6 yX;exact Zdv
   ·have d:decide (s.ep < u.wd)=false:=decide_eq_false hex;go_quiet ((go_at_call 54; exact Qv (uE.out _)));have E4:=Za (E3.out.drewN nq);have ot:Hid (Zi Zb 214 #[.pointer (some ⟨q.e,21,none⟩),.int .i64 4,.slice (some ⟨(W3.drewN nq).heap.size,0,none⟩) 1 1] ((W3.drewN nq).alloc (.cells #[.int .i64 (i:Int)] 3)) fun e w'=>e= .returned (.tuple #[])∧Eg (N+1) w0 w' c a q (ZI Z N (YP 3 1 (.slice (some ⟨g,0,none⟩) m cp) m (F.map Lu))) { s with V:=F9 (Lg s.ep) s.V (F.take (k+1))} (U4 s.ep L++iR s.ep s.V (F.take (k+1)))):=Za (by
     have Ml:=HU.out.2.2.1;have:=pq E4.out (i:=i) (ev:=4) rfl HU.out.1 Ml.2.2 jZ;refine this.mono fun e w' ⟨he,h5⟩=>⟨he,?_⟩
     rw [HU.out.2.2.2.2.2,if_neg hex,XL,HLK.out,HU.out.2.2.2.1,show Lg s.ep u=Oc 4 u from if_pos Ze,←HU.out.2.2.2.2.1];exact h5)
    clear E4 E3 y4 HU d HLK HB3;exact Zgq
  ·obtain rfl:k=m:=by omega
   clear XJ;have XJ: ¬k < k:=by omega
   have H7:Hid (Eg N w0 wr c a q Z { s with V:=OK s.ep s.V (Vb s.ep L)} (Lf s.ep s.V L)):=Za (by
    have:=HE.out;rw [Yn Ro,HX.out.2.2.1,HX.out.2.2.2.2.2.1] at this;exact this.drop HN.out)
   exact kf
end
end
end Go.Proofs.YtianiiijaopdpaaGreat
