/- Part 24 of 29: Go6 Go7 Md Dep Pro Lev. -/
import Derived.Test.YtianiiijaopdpaaGreatZy00
import Derived.Test.YtianiiijaopdpaaGreatZy23
namespace Go.Proofs.YtianiiijaopdpaaGreat
set_option linter.unusedVariables false
set_option linter.unusedSimpArgs false
set_option maxRecDepth 100000
set_option maxHeartbeats 8000000
open _root_.And renaming intro → Zh
open _root_.Go renaming Calls → Zj, World → Zc, bodyPost_ret → ZL, results_cell_row → ZO, setRow_heap → Z6, wpList_load_row → Zn, wpList_store_row → Zo, wpQuiet → ZW, wpQuiet_nil → Xx
open _root_.Go.Proofs.YtianiiijaopdpaaGreat.Eg renaming drewN → Kp
open _root_.Go.Proofs.YtianiiijaopdpaaGreat.Kept renaming refl → ZH, setCells → QF
open _root_.Go.Lib renaming hid → Za
open _root_.List renaming drop_eq_getElem?_toList_append → Kw, ext_getElem → KC, getD_eq_getElem?_getD → Zq, getElem?_eq_getElem → Zf, getElem?_eq_some_iff → Zi, getElem?_map → ZP, length_map → YE, replicate → Zy
open _root_.Nat renaming le_trans → Z9
open _root_.Go.NoPanic renaming normal → Yr
open _root_.Go.Proofs.YtianiiijaopdpaaGreat.Of renaming op → Kx, rc → V6
open _root_.Go.Region renaming wanted → YQ
open _root_.Go.Proofs.Tryz renaming call54 → Ke, prog → Zb, underlying37 → ZV, underlying42 → Yb, underlying63 → Zr
theorem jq {G:Prop}(h:G:=by rw [List.getElem?_take_of_lt XP]; exact hp) :G:=h
theorem jk {G:Prop}(h:G:=by have:=HV.out.2.2; have:=HV.out.2.1; unfold maxLen; omega) :G:=h
theorem ji {G:Prop}(h:G:=by rw [Rz (HC.out.2.1.ep_in HC.out.2.2.1),if_pos zZ.out]) :G:=h
theorem Ri {G:Prop}(h:G:=by rw [HM.out]; exact XP) :G:=h
theorem Rf {G:Prop}(h:G:=by rw [HM.out]; exact Nat.le_refl _) :G:=h
theorem JW {G:Prop}(h:G:=by simp only [HE.out]; rfl) :G:=h
theorem KU {G:Prop}(h:G:=by simp only [HE.out]; exact H9.out.done HN.out _) :G:=h
theorem rI {G H:Prop} (k:H) (h:BZ H→G:=by
  intro zk;refine YJ _ _ ⟨q.e,21,none⟩ (.pointer (some ⟨a.r,0,none⟩)) rfl rfl rfl (fun w h=>by simp [go_sem,h]) (fun w h=>Eg.x21 h) ?_;exact zk.out) :G:=h ⟨k⟩
theorem Zfx {G H:Prop} (k:H) (h:BZ H→G:=by
  intro zk;refine YJ _ _ ⟨q.e,24,none⟩ (.pointer (some ⟨a.n,0,none⟩)) rfl rfl rfl (fun w h=>by simp [go_sem,h]) (fun w h=>h.cell 24) ?_;exact zk.out) :G:=h ⟨k⟩
theorem ZfB {G H:Prop} (k:H) (h:BZ H→G:=by
  intro zk;refine YJ _ _ ⟨b,1,none⟩ (.int .i64 o.ix) rfl rfl rfl (fun w h=>by simp [go_sem,h]) (fun w h=>Of.k1 h HN.out) ?_;exact zk.out) :G:=h ⟨k⟩
theorem zT1 {G:Prop} (h:G:=by
  refine Pu (fun w'=>Of N w0 w' c a q Z s L b o) 7 [0,1,2,3,4,5,6] (?_) ?_
  ·exact Eg.drew HO.out
  refine Kg ?_;show wpQuiet _ _ _ _ [_,_,_,_,_,_,_] _;refine BN ?_;refine rI ?_;refine Qe ?_;refine GN ?_;refine ZfB ?_;refine Qe ?_;refine Qc ?_;have hD:Of N w0 W.drew c a q Z s L b o:=Eg.drew HO.out;clear HO;generalize W.drew=V at*;refine UQ (i:=7) (k:=11) Ye ZI ZI ?_ ?_
  ·refine JZ #[.pointer (some ⟨a.r,0,none⟩),.int .i64 o.ix] Tryz.call70 ((tJ.out _ hD).mono ?_);rintro e w2 ⟨rfl,hb⟩;have h2:Of N w0 w2 c a q Z s L b o:=Eg.below hD hb;refine ⟨_,rfl,h2,?_⟩;clear hb;refine JG ?_;refine FX (fun w'=>Of N w0 w' c a q Z s L b o) (m:=6) (f:=3) [8,9,10] (?_) ?_
   ·exact h2
   refine Kg ?_;refine TK ?_;refine DP ?_;refine Qc ?_;refine hfO (i:=11) ?_;refine YD rfl rfl (Kv rfl ?_);refine ⟨Eg.below h2 ((Below.refl _ _).alloc (Nat.le_refl _) _),?_⟩;refine JG ?_;refine hfO (i:=12) ?_;refine YD rfl rfl (wp_store_row _ _ _ rfl w2.heap.size (Zd u) rfl rfl 63 _ (heap_alloc_new w2 _) Ym rfl (Yx _) ?_);rw [iX];have h3:=Eg.box h2 (Zd u) 63;have h4:Of N w0 (w2.alloc (.cells (Zd u) 63)) c a q Z s L b o:=Eg.below h2 ((Below.refl _ _).alloc (Nat.le_refl _) _);refine ⟨h4,?_⟩;generalize w2.alloc (.cells (Zd u) 63)=w4 at*;refine JG ?_;refine FX (fun w'=>Of N w0 w' c a q Z s L b o) (m:=1) (f:=0) [13] (?_) ?_
   ·exact h4
   refine Kg ?_;refine FV ?_;refine GN ?_;refine Qc ?_;refine ⟨by kernel_rfl,NoPanic.normal ?_⟩;refine JG ?_;go_wp2_with fail;go_meet;exact ⟨_,rfl,rfl,Lib.hid h3⟩
  ·refine YD rfl rfl (Kv rfl ?_);have h1:=Eg.box hD (Zd ZZ) 63;have h1':Of N w0 (V.alloc (.cells (Zd ZZ) 63)) c a q Z s L b o:=Eg.below hD ((Below.refl _ _).alloc (Nat.le_refl _) _);refine ⟨h1',?_⟩;generalize V.heap.size=zb at*;generalize V.alloc (.cells (Zd ZZ) 63)=V1 at*;refine JG ?_;refine hfO (i:=7) ?_;refine JG ?_;refine JZ #[.pointer (some ⟨a.r,0,none⟩),.int .i64 o.ix] Tryz.call70 ((tJ.out _ h1').mono ?_);rintro e w2 ⟨rfl,hb⟩;have h2:=h1.below hb;have h2':Of N w0 w2 c a q Z s L b o:=Eg.below h1' hb;refine ⟨_,rfl,h2',?_⟩;clear hb;refine JG ?_;refine FX (fun w'=>Of N w0 w' c a q Z s L b o) (m:=5) (f:=2) [8,9,10] (?_) ?_
   ·exact h2'
   refine Kg ?_;refine TK ?_;refine DP ?_;refine Qc ?_;refine hfO (i:=12) ?_;have hB:=h2.blkAt (r:=N+2) ZJ Ze xput_same;refine YD rfl rfl (wp_store_row _ _ _ rfl zb (Zd u) rfl rfl 63 _ hB Ym rfl (Yx _) ?_);have h3:=h2.setr (r:=N+2) ZJ Ze xput_same (cs':=Zd u) (Blk.setRow hB _) (Kept.setRow (S:=fun i=>i=zb) (Kept.refl _ _) (.inl rfl) _);rw [Xk] at h3;have h4:Of N w0 (w2.setRow zb (Zd u)) c a q Z s L b o:=h3.drop ZJ;refine ⟨h4,?_⟩;generalize w2.setRow zb (Zd u)=w4 at*;refine JG ?_;refine FX (fun w'=>Of N w0 w' c a q Z s L b o) (m:=1) (f:=0) [13] (?_) ?_
   ·exact h4
   refine Kg ?_;refine FV ?_;refine GN ?_;refine Qc ?_;refine ⟨by kernel_rfl,NoPanic.normal ?_⟩;refine JG ?_;go_wp2_with fail;go_meet;exact ⟨_,rfl,rfl,Lib.hid h3⟩) :G:=h
theorem ZfG {G:Prop} (h:G:=by
  have VJ:=Lib.hid (Of.op HD.out HN.out);go_wp2_with (first | (refine wpList_load_row rfl 37 _ rfl b rfl 37 _ (0,0) _ VJ.out Tryz.underlying37 rfl QL ?_));refine (Vw (N:=N+2) HD.out HT.out o 3).mono ?_;rintro e w9 ⟨rfl,h9⟩;have H9:Hid (Of N w0 w9 c a q Z s L b o):=Lib.hid h9;have VG:=Lib.hid (Of.rc h9 HN.out);clear h9 VJ HD;go_wp2_with (first | (refine wpList_store_row rfl _ _ _ rfl (b+1) (Zw (VX o.kd 3 s.bk s.ep)) rfl rfl 42 _ VG.out YS rfl (YH _) ?_));exact bodyPost_ret (v:= .agg (Zw (VX o.kd 3 s.bk s.ep))) (results_cell_row (fn:=Tryz.f83) rfl _ _ (b+1) 42 _ (0,0) _ rfl (setRow_heap _ _ _ _ _ _ VG.out) Tryz.underlying42 rfl YS) rfl (And.intro JW KU)) :G:=h
theorem Zgi {G:Prop} (h:G:=by
  go_wp2_with fail;refine H.out.mono ?_;rintro e w2 ⟨v,rfl,h2⟩;have H2:=Lib.hid h2;clear h2 H;go_wp2_with fail;go_ret;exact ⟨_,rfl,H2.out⟩) :G:=h
theorem Zgw {G:Prop} (h:G:=by
  go_wp2_with fail;go_roundw
  case rel=>exact ⟨j+1,by omega,by go_num,H4,HZ2⟩
  case measure=>simp [intOf]; omega) :G:=h
section
open Go Go.RowKit Go.Deep
def Iy (n:Nat)(F:List Nat) :List Bool:=(List.range n).map fun j=>decide (j ∈ F)
theorem vD (n:Nat)(F:List Nat) :(Iy n F).length=n:=by simp [Iy]
theorem vE (n:Nat) :Iy n []=Zy n false:=by
 apply KC (by simp [Iy]);intro i h1 h2;simp [Iy]
theorem vF {n:Nat}{F:List Nat}{k i:Nat}(hk:F[k]?=some i) :(Iy n (F.take k)).set i true=Iy n (F.take (k+1)):=by
 apply KC (by simp [Iy]);intro j h1 h2;rw [List.getElem_set];simp only [Iy,List.getElem_map,List.getElem_range];rw [List.take_add_one,hk]
 by_cases h:i=j
 ·subst h; simp
 ·rw [if_neg h];have: ¬j=i:=fun e=>h e.symm
  simp [this]
theorem pK (V:List Yd) :Iy V.length (Lx V 5 V.length)=MY V:=by
 apply KC (by simp [Iy,MY]);intro j h1 h2;have hj:j < V.length:=by simpa [Iy] using h1
 simp only [Iy,MY,List.getElem_map,List.getElem_range];apply decide_eq_decide.2;rw [Nw,Zq,Zf hj];simp [hj]
def vB (b:Bool) :Value:= .bool b
section
variable {N:Nat} {w0:DR} {w w' w1:Zc} {c:Nat→Int} {a:Pl} {q:Ql} {Z:Nat→Zc→(Nat→Prop)→Prop} {s s':Sg} {L L':List QT}
theorem ZaE (h:Eg N w0 w c a q Z s L){vs p:Int}(hcu:s.cu≤100)(hl:s.V.length≤100) :
  Zj Zb 220 #[.pointer (some ⟨q.e,21,none⟩),.int .i64 vs,.int .i64 p] w fun e w'=> ∃b2 cp,e= .returned (.tuple #[.slice b2 (KS (MY s.V) s.cu (F8 (MY s.V) s.cu vs p)).length cp,.int .i64 (F8 (MY s.V) s.cu vs p)])∧
   Eg (N+1) w0 w' c a q (ZD Z N (Kt L6 1 b2 (KS (MY s.V) s.cu (F8 (MY s.V) s.cu vs p)))) { s with cu:=DN s.V.length s.cu (F8 (MY s.V) s.cu vs p)} L∧w.heap.size≤w'.heap.size:=by
 have hN:=h.low;have y0:w.cell? ⟨q.e,21,none⟩=some (.pointer (some ⟨a.r,0,none⟩)):=h.blk.cell 21;obtain ⟨n,hn⟩ : ∃n,s.V.length=n:=⟨_,rfl⟩;have Dw:=Lm n Ze w;obtain ⟨F,hF⟩ : ∃F,Lx s.V 5 n=F:=⟨_,rfl⟩;have Mf:F.length≤n:=by
  have:=Zcm s.V 5 (Nat.le_refl n);rw [←hF]; unfold Lx; exact Z9 (List.length_filter_le _ _) ZI
 have hR:Iy n F=MY s.V:=by rw [←hF,←hn]; exact pK s.V
 have HF:Hid (∀i ∈ F,i < n):=Za fun i hi=>by rw [←hF] at hi; exact (Nw.1 hi).1
 have H0:Hid (Eg (N+1) w0 (w.alloc (.cells (Gc (Zy n false)) 4)) c a q (ZD Z N (YW w.heap.size 4 ((Iy n (F.take 0)).map vB).toArray)) s L):=Za (by
  have:=h.box (Gc (Zy n false)) 4;rw [show ((Iy n (F.take 0)).map vB).toArray=Gc (Zy n false) by rw [List.take_zero,vE]; rfl];exact this)
 have ye:Hid (w.heap.size≤(w.alloc (.cells (Gc (Zy n false)) 4)).heap.size):=Za ZI;have HWi:=Za (yx H0.out (st:=5) rfl Ze);rw [hn,hF] at HWi;have HG:Hid (Zj Zb 119 #[.pointer (some ⟨a.r,0,none⟩)] w fun e w'=>e= .returned (.int .i64 (n:Int))∧w=w'):=Za (by
  obtain ⟨X,hX,Uf,hh,_⟩:=h.open;have:=hh.len Uf;rwa [hn] at this)
 obtain ⟨M,hM⟩ : ∃M,F8 (MY s.V) s.cu vs p=M:=⟨_,rfl⟩;obtain ⟨J,hJ⟩ : ∃J,KS (MY s.V) s.cu M=J:=⟨_,rfl⟩;have HN:=Za hN;have HV:=Za (Zh hn (Zh hcu (Zh hl (Zh hR (Zh hM hJ)))));have hn100:n≤100:=by omega
 rw [hM,hJ,hn];clear h hn hN hcu hl hR hF hM hJ;go_enter Tryz.func220,Tryz.ntmps220;go_wp2_with fail;refine HG.out.mono ?_;rintro e w2 ⟨rfl,rfl⟩;clear HG;go_wp2_with fail;clear Dw;refine HWi.out.mono ?_;rintro e w3 ⟨v,rfl,h3,hle⟩;clear HWi H0;generalize hz:w.heap.size=z at*;have HZZ:=Za hz;clear hz;obtain ⟨ia,cp,rfl⟩:=XC (h3.row (r:=N+1) ZJ Ze xput_same);have H3:=Za h3;have HL3:Hid (z≤w3.heap.size):=Za (Z9 ye.out hle);obtain ⟨m,hm⟩ : ∃m,F.length=m:=⟨_,rfl⟩;have HM:=Za hm;rw [hm] at Mf H3 ⊢;clear h3 hle ye hm y0;go_wp2_with fail;go_loopw [20] (fun s20 wr=> ∃(k:Nat),k≤m∧s20= .int .i64 k∧Hid (Eg (N+1+1) w0 wr c a q (ZD (ZD Z (N+1) (YK 3 1 (.slice ia m cp) m (F.map Lv))) N (YW z 4 ((Iy n (F.take k)).map vB).toArray)) s L)∧Hid (z≤wr.heap.size)) (fun s20 _=>m -(intOf s20).toNat)
 case atStart=>exact ⟨0,by omega,rfl,Za (H3.out.ext fun k h1 h2=>by
  unfold ZD
  by_cases e1:k=N+1
  ·subst e1; rw [if_pos rfl,if_neg Ze,if_pos rfl]
  ·by_cases e2:k=N
   ·subst e2; rw [if_neg Ze,if_pos rfl,if_pos rfl]
   ·rw [if_neg e1,if_neg e2,if_neg e2,if_neg e1]),HL3⟩
 case round=>
  obtain ⟨k,hk,rfl,HE,HZ⟩:=hrel
  by_cases XP:k < m
  ·obtain ⟨i,hi⟩ : ∃i,F[k]?=some i:=⟨_,Zf Ri⟩;have WU:i < n:=HF.out i (List.mem_of_getElem? hi);obtain ⟨g,rfl,hc⟩:=CX (HE.out.row (r:=N+1) ZJ Ze Ug) (show (F.map Lv)[k]?=some (.int .i64 (i:Int)) by rw [ZP,hi]; rfl);have hB:=HE.out.blkAt (r:=N) HN.out Ze xput_same;obtain ⟨uu,hc2⟩ : ∃uu,wr.cell? ⟨z,i,none⟩=some uu:=⟨_,(hB.cell i).trans (by rw [List.getElem?_toArray,Zf (by rw [YE,vD]; exact WU)])⟩;have hfz:wr.frozen? ⟨z,i,none⟩=false:=hB.frozen i;have H4:Hid (Eg (N+1+1) w0 (wr.setCell ⟨z,i,none⟩ (.bool true)) c a q (ZD (ZD Z (N+1) (YK 3 1 (.slice (some ⟨g,0,none⟩) m cp) m (F.map Lv))) N (YW z 4 ((Iy n (F.take (k+1))).map vB).toArray)) s L):=Za (by
    have h4:=HE.out.setc (r:=N) HN.out Ze xput_same i (.bool true);rw [Xk,List.setIfInBounds_toArray,show Value.bool true=vB true from rfl,←List.map_set,vF hi] at h4;exact h4)
   have HZ4:Hid (z≤(wr.setCell ⟨z,i,none⟩ (.bool true)).heap.size):=Za (by have:=HZ.out; simpa using this);clear hB HE hi;go_wp2_with fail;exact zn
  ·obtain rfl:k=m:=by omega
   clear XP;have XP: ¬k < k:=by omega
   have h5:=HE.out;rw [List.take_of_length_le Rf,HV.out.2.2.2.1] at h5;have h6:=h5.torow (r:=N) (k:=1) (n:=n) HN.out Ze xput_same (by rw [YE,MY,YE,HV.out.1,Nat.mul_one]) UH;rw [Xk] at h6;have y5:wr.cell? ⟨q.e,23,none⟩=some (.pointer (some ⟨a.k,0,none⟩)):=h6.blk.cell 23;have HS:Hid (Zj Zb 270 #[.pointer (some ⟨a.k,0,none⟩),.slice (some ⟨z,0,none⟩) n n,.int .i64 vs,.int .i64 p] wr fun e w'=> ∃b2 cp,e= .returned (.tuple #[.slice b2 J.length cp,.int .i64 M])∧
     Eg (N+1) w0 w' c a q (ZD Z N (Kt L6 1 b2 J)) { s with cu:=DN n s.cu M} L∧wr.heap.size≤w'.heap.size):=Za (by
    obtain ⟨X,hX,Uf,hh,aB,Wb,hZk,_⟩:=h6.open;have mT:=h6.low;have hxr:X N=YK 4 1 (.slice (some ⟨z,0,none⟩) n n) n ((MY s.V).map Value.bool):=(hZk N HN.out Ze).trans xput_same;refine (hh.sweep2 hX Uf (r:=N) ZJ Ze hxr HV.out.2.1 (by rw [MY,YE,HV.out.1]; exact hn100) (vs:=vs) (p:=p)).mono ?_;rintro e w' ⟨b2,cp2,rfl,g1,g2⟩;rw [HV.out.2.2.2.2.1,HV.out.2.2.2.2.2] at g1 ⊢;have g3:=Wb _ _ _ _ g1 Lp rfl rfl;refine ⟨b2,cp2,rfl,?_,g2⟩;rw [show (MY s.V).length=n by rw [MY,YE,HV.out.1]] at g3;exact Eg.pick (m:=2) g3 HN.out (fun k h1 h2=>by rw [xput_ne Ze,xput_ne Ze,xput_ne Ze]) xput_same)
   clear HE h5 h6;go_wp2_with fail;refine HS.out.mono ?_;rintro e w4 ⟨b2,c2,rfl,g1,g2⟩;have G:=Za (Zh g1 (Z9 HZ.out g2));clear g1 g2 HS;go_wp2_with fail;go_ret2;exact ⟨b2,c2,rfl,G.out.1,by rw [HZZ.out]; exact G.out.2⟩
end
end
section
open Go Go.RowKit Go.Deep
section
variable {N:Nat} {w0:DR} {w w' w1:Zc} {c:Nat→Int} {a:Pl} {q:Ql} {X Z:Nat→Zc→(Nat→Prop)→Prop} {s s':Sg} {L L':List QT}
theorem kf (h:Eg N w0 w c a q Z s L){mo:Int}(h0:0≤mo)(hl:s.mg.length≤100000){k:Nat}(hk:min mo.toNat s.mg.length=k) :
  Zj Zb 298 #[.pointer (some ⟨q.d,0,none⟩),.int .i64 mo] w fun e w'=> ∃v,e= .returned v∧Eg (N+1) w0 w' c a q (ZD Z N (YK 73 2 v k (JA (s.mg.take k)))) { s with mg:=s.mg.drop k} L∧w.heap.size≤w'.heap.size:=by
 have hN:=h.low;have HG:=Za h.mlen;have Dw:=cc k Ze w;obtain ⟨n,hn⟩ : ∃n,s.mg.length=n:=⟨_,rfl⟩;rw [hn] at hl hk HG;have kR:(if(n:Int)< mo then(n:Int) else mo)=(k:Int):=by split <;> omega
 have cX:min mo (n:Int)=(k:Int):=by omega
 have HA:Hid ((s.mg.take k).length=k):=Za NV;have H0:Hid (Eg (N+1) w0 (w.alloc (.cells (JA (Zy k ((0:Int),(0:Int)))).toArray 73)) c a q (ZD Z N (YW w.heap.size 73 (JA (Kr (s.mg.take k) ((0:Int),(0:Int)) 0)).toArray)) { s with mg:=s.mg.drop 0} L):=Za (by
  have:=h.box (JA (Zy k ((0:Int),(0:Int)))).toArray 73;rw [MA,HA.out];exact this)
 have ye:Hid (w.heap.size≤(w.alloc (.cells (JA (Zy k ((0:Int),(0:Int)))).toArray 73)).heap.size):=Za ZI;have HN:=Za hN;have HV:=Za (Zh hn (Zh hk hl));have vh:k≤100000:=by omega
 clear h hn hN h0 hl hk;go_enter Tryz.func298,Tryz.ntmps298;go_wp2_with fail;refine HG.out.mono ?_;rintro e w2 ⟨rfl,rfl⟩;clear HG;go_wp2_with fail;clear Dw kR cX;generalize hz:w.heap.size=z at*;have HZZ:=Za hz;clear hz;generalize w.alloc (.cells (JA (Zy k ((0:Int),(0:Int)))).toArray 73)=W at*;go_loopw [14] (fun s14 wr=> ∃(j:Nat),j≤k∧s14= .int .i64 j∧Hid (Eg (N+1) w0 wr c a q (ZD Z N (YW z 73 (JA (Kr (s.mg.take k) ((0:Int),(0:Int)) j)).toArray)) { s with mg:=s.mg.drop j} L)∧Hid (z≤wr.heap.size)) (fun s14 _=>k -(intOf s14).toNat)
 case atStart=>exact ⟨0,by omega,rfl,H0,ye⟩
 case round=>
  obtain ⟨j,hj,rfl,HE,HZ⟩:=hrel
  by_cases XP:j < k
  ·obtain ⟨p,hp⟩ : ∃p,s.mg[j]?=some p:=⟨_,Zf (by rw [HV.out.1]; have:=HV.out.2.1; omega)⟩;have HP:Hid ((s.mg.take k)[j]?=some p):=Za jq;have HD:Hid (s.mg.drop j=p::s.mg.drop (j+1)):=Za (Kw .. |>.trans (by rw [hp]; rfl));have HG:=Za (HE.out.mpop (p:=p) (rest:=s.mg.drop (j+1)) HD.out);clear hp;go_wp2_with fail;refine HG.out.mono ?_;rintro e w2 ⟨rfl,h2,hle⟩;have hB:=h2.blkAt (r:=N) HN.out Ze xput_same;have Um:=h2.mstore (r:=N) HN.out Ze xput_same HP.out;rw [Xk] at Um;have dc:=Za Um;have HZ2:Hid (z≤(w2.setCells z (j*2) (cellsP p).toList).heap.size):=Za (by
    have h3:=(QF (cellsP p).toList (j*2) w2 (ZH (fun i=>i=z) w2) (.inl rfl)).size;have:=HZ.out;omega)
   clear h2 hle hB Um HG HE HZ HD HP;go_wp2_with (first | (refine wpList_store_mid rfl 73 _ _ rfl z (j*2) (cellsP p) rfl rfl dc.out.1 Bf (Uv p) ?_));have H4:=Za dc.out.2;clear dc;generalize w2.setCells z (j*2) (cellsP p).toList=W4 at*;exact Zgw
  ·obtain rfl:j=k:=by omega
   clear XP;have XP: ¬j < j:=by omega
   have H7:Hid (Eg (N+1) w0 wr c a q (ZD Z N (YK 73 2 (.slice (some ⟨z,0,none⟩) j j) j (JA (s.mg.take j)))) { s with mg:=s.mg.drop j} L):=Za (by
    have h1:=HE.out;have hA:=HA.out;have h3:Kr (s.mg.take j) ((0:Int),(0:Int)) j=s.mg.take j:=by
     have:=Og (A:=s.mg.take j) (z:=((0:Int),(0:Int)));rwa [hA] at this
    rw [h3] at h1;have h2:=h1.torow (r:=N) (k:=2) (n:=j) HN.out Ze xput_same (by rw [FB,hA]) jk;rwa [Xk] at h2)
   exact rQ
theorem oC (h:Eg N w0 w c a q Z s L){mo:Int}(h0:0≤mo)(hl:s.mg.length≤100000){k:Nat}(hk:min mo.toNat s.mg.length=k) :
  Zj Zb 263 #[.pointer (some ⟨q.e,27,none⟩),.int .i64 mo] w fun e w'=> ∃v,e= .returned v∧Eg (N+1) w0 w' c a q (ZD Z N (YK 73 2 v k (JA (s.mg.take k)))) { s with mg:=s.mg.drop k} L∧w.heap.size≤w'.heap.size:=by
 have y0:w.cell? ⟨q.e,28,none⟩=some (.pointer (some ⟨q.d,0,none⟩)):=h.blk.cell 28;have H:=Za (kf h h0 hl hk);clear h h0 hl hk;go_enter Tryz.func263,Tryz.ntmps263;exact Zgi
theorem kg (h:Eg N w0 w c a q Z s L){mo:Int}(h0:0≤mo)(hl:s.pt.length≤100000){k:Nat}(hk:min mo.toNat s.pt.length=k) :
  Zj Zb 265 #[.pointer (some ⟨q.q,0,none⟩),.int .i64 mo] w fun e w'=> ∃v,e= .returned v∧Eg (N+1) w0 w' c a q (ZD Z N (YK 75 2 v k (Jo (s.pt.take k)))) { s with pt:=s.pt.drop k} L∧w.heap.size≤w'.heap.size:=by
 have hN:=h.low;have HG:=Za h.tlen;have Dw:=cg k Ze w;obtain ⟨n,hn⟩ : ∃n,s.pt.length=n:=⟨_,rfl⟩;rw [hn] at hl hk HG;have kR:(if(n:Int)< mo then(n:Int) else mo)=(k:Int):=by split <;> omega
 have cX:min mo (n:Int)=(k:Int):=by omega
 have HA:Hid ((s.pt.take k).length=k):=Za NV;have H0:Hid (Eg (N+1) w0 (w.alloc (.cells (Jo (Zy k L8)).toArray 75)) c a q (ZD Z N (YW w.heap.size 75 (Jo (Kr (s.pt.take k) L8 0)).toArray)) { s with pt:=s.pt.drop 0} L):=Za (by
  have:=h.box (Jo (Zy k L8)).toArray 75;rw [MA,HA.out];exact this)
 have ye:Hid (w.heap.size≤(w.alloc (.cells (Jo (Zy k L8)).toArray 75)).heap.size):=Za ZI;have HN:=Za hN;have HV:=Za (Zh hn (Zh hk hl));have vh:k≤100000:=by omega
 clear h hn hN h0 hl hk;go_enter Tryz.func265,Tryz.ntmps265;go_wp2_with fail;refine HG.out.mono ?_;rintro e w2 ⟨rfl,rfl⟩;clear HG;go_wp2_with fail;clear Dw kR cX;generalize hz:w.heap.size=z at*;have HZZ:=Za hz;clear hz;generalize w.alloc (.cells (Jo (Zy k L8)).toArray 75)=W at*;go_loopw [14] (fun s14 wr=> ∃(j:Nat),j≤k∧s14= .int .i64 j∧Hid (Eg (N+1) w0 wr c a q (ZD Z N (YW z 75 (Jo (Kr (s.pt.take k) L8 j)).toArray)) { s with pt:=s.pt.drop j} L)∧Hid (z≤wr.heap.size)) (fun s14 _=>k -(intOf s14).toNat)
 case atStart=>exact ⟨0,by omega,rfl,H0,ye⟩
 case round=>
  obtain ⟨j,hj,rfl,HE,HZ⟩:=hrel
  by_cases XP:j < k
  ·obtain ⟨p,hp⟩ : ∃p,s.pt[j]?=some p:=⟨_,Zf (by rw [HV.out.1]; have:=HV.out.2.1; omega)⟩;have HP:Hid ((s.pt.take k)[j]?=some p):=Za jq;have HD:Hid (s.pt.drop j=p::s.pt.drop (j+1)):=Za (Kw .. |>.trans (by rw [hp]; rfl));have HG:=Za (HE.out.tpop (p:=p) (rest:=s.pt.drop (j+1)) HD.out);clear hp;go_wp2_with fail;refine HG.out.mono ?_;rintro e w2 ⟨rfl,h2,hle⟩;have hB:=h2.blkAt (r:=N) HN.out Ze xput_same;have Um:=h2.tstore (r:=N) HN.out Ze xput_same HP.out;rw [Xk] at Um;have dc:=Za Um;have HZ2:Hid (z≤(w2.setCells z (j*2) (ZA p).toList).heap.size):=Za (by
    have h3:=(QF (ZA p).toList (j*2) w2 (ZH (fun i=>i=z) w2) (.inl rfl)).size;have:=HZ.out;omega)
   clear h2 hle hB Um HG HE HZ HD HP;go_wp2_with (first | (refine wpList_store_mid rfl 75 _ _ rfl z (j*2) (ZA p) rfl rfl dc.out.1 Qy (Ky p) ?_));have H4:=Za dc.out.2;clear dc;generalize w2.setCells z (j*2) (ZA p).toList=W4 at*;exact Zgw
  ·obtain rfl:j=k:=by omega
   clear XP;have XP: ¬j < j:=by omega
   have H7:Hid (Eg (N+1) w0 wr c a q (ZD Z N (YK 75 2 (.slice (some ⟨z,0,none⟩) j j) j (Jo (s.pt.take j)))) { s with pt:=s.pt.drop j} L):=Za (by
    have h1:=HE.out;have hA:=HA.out;have h3:Kr (s.pt.take j) L8 j=s.pt.take j:=by
     have:=Og (A:=s.pt.take j) (z:=L8);rwa [hA] at this
    rw [h3] at h1;have h2:=h1.torow (r:=N) (k:=2) (n:=j) HN.out Ze xput_same (by rw [FH,hA]) jk;rwa [Xk] at h2)
   exact rQ
theorem oD (h:Eg N w0 w c a q Z s L){mo:Int}(h0:0≤mo)(hl:s.pt.length≤100000){k:Nat}(hk:min mo.toNat s.pt.length=k) :
  Zj Zb 217 #[.pointer (some ⟨q.e,27,none⟩),.int .i64 mo] w fun e w'=> ∃v,e= .returned v∧Eg (N+1) w0 w' c a q (ZD Z N (YK 75 2 v k (Jo (s.pt.take k)))) { s with pt:=s.pt.drop k} L∧w.heap.size≤w'.heap.size:=by
 have y0:w.cell? ⟨q.e,29,none⟩=some (.pointer (some ⟨q.q,0,none⟩)):=h.blk.cell 29;have H:=Za (kg h h0 hl hk);clear h h0 hl hk;go_enter Tryz.func217,Tryz.ntmps217;exact Zgi
end
end
section
open Go Go.RowKit Go.Deep
section
variable {P:Program} {ops:Array Oper} {rest:List Oper} {op:Oper} {a:Act}
theorem FI {C:Zc→Prop}{Qa:Act→Prop}(ty:TypeId)(x:Operand)(b o:Nat)(cs:List Value)(d:TypeDesc)(hw:YQ op (yielded ops a.tmps)=true)(ho:op.op= .load ty x)(hx:a.eval x= .pointer (some ⟨b,o,none⟩))
  (hC: ∀w,C w→w.rangeAt b o cs) (hu:P.underlying ty=some d) (hd:d.isRow=true) (hi:(P.info? ty).map (·.size)=some cs.length)
  (h:ZW P ops C Qa rest (a.put op.dst (.agg cs.toArray))) :ZW P ops C Qa (op::rest) a:=by
 unfold ZW;rw [if_pos hw];refine ⟨_,fun w hc=>?_,h⟩;unfold Oper.quietAt execOp;simp only [ho,hx,Instr.loadAt,Instr.sureAddr,Sem.run_bind,Sem.run_pure,Result.andThen_ok,run_loadVar_mid w b o ty cs d (hC w hc) hu hd hi];exact Hd
theorem Pf {C:Zc→Prop}{Qa:Act→Prop}(ty:TypeId)(x:Operand)(b o:Nat)(cs:Array Value)(d:TypeDesc)(hw:YQ op (yielded ops a.tmps)=true)(ho:op.op= .load ty x)(hx:a.eval x= .pointer (some ⟨b,o,none⟩))
  (hC: ∀w,C w→w.rangeAt b o cs.toList) (hu:P.underlying ty=some d) (hd:d.isRow=true) (hi:(P.info? ty).map (·.size)=some cs.size)
  (h:ZW P ops C Qa rest (a.put op.dst (.agg cs))) :ZW P ops C Qa (op::rest) a:=
 FI ty x b o cs.toList d hw ho hx hC hu hd hi h
end
theorem dL (c:Nat→Int)(a:Pl)(q:Ql) :Uw c a q=Zk c++ #[.pointer (some ⟨a.c,0,none⟩),.pointer (some ⟨a.r,0,none⟩),.pointer (some ⟨a.l,0,none⟩),.pointer (some ⟨a.k,0,none⟩),.pointer (some ⟨a.n,0,none⟩),.pointer (some ⟨a.m,0,none⟩),.pointer (some ⟨a.u,0,none⟩),.pointer (some ⟨a.p,0,none⟩),.pointer (some ⟨q.d,0,none⟩),.pointer (some ⟨q.q,0,none⟩)]:=rfl
theorem Nh {w:Zc}{c:Nat→Int}{a:Pl}{q:Ql}(h:Blk w q.e 107 (Uw c a q)) :w.rangeAt q.e 0 (Zk c).toList:=fun j v hj=>by
 have hl:j < (Zk c).size:=by have:=(Zi.1 hj).1; simpa using this
 rw [h.cell,Nat.zero_add,dL,Array.getElem?_append_left hl,←Array.getElem?_toList];exact hj
section
variable {N:Nat} {w0:DR} {w:Zc} {c:Nat→Int} {a:Pl} {q:Ql} {Z:Nat→Zc→(Nat→Prop)→Prop} {s:Sg} {L:List QT} {b:Nat} {o:Oq}
theorem Eg.x0 (h:Eg N w0 w c a q Z s L) :w.cell? ⟨q.e,0,none⟩=some (.int .i64 (c 0)):=h.blk.cell 0
theorem Eg.x2 (h:Eg N w0 w c a q Z s L) :w.cell? ⟨q.e,2,none⟩=some (.int .u64 (c 2)):=h.blk.cell 2
theorem Eg.x3 (h:Eg N w0 w c a q Z s L) :w.cell? ⟨q.e,3,none⟩=some (.int .u64 (c 3)):=h.blk.cell 3
theorem Eg.x16 (h:Eg N w0 w c a q Z s L) :w.cell? ⟨q.e,16,none⟩=some (.int .i64 (c 16)):=h.blk.cell 16
theorem Eg.x17 (h:Eg N w0 w c a q Z s L) :w.cell? ⟨q.e,17,none⟩=some (.int .i64 (c 17)):=h.blk.cell 17
theorem Eg.x21 (h:Eg N w0 w c a q Z s L) :w.cell? ⟨q.e,21,none⟩=some (.pointer (some ⟨a.r,0,none⟩)):=h.blk.cell 21
theorem Eg.x22 (h:Eg N w0 w c a q Z s L) :w.cell? ⟨q.e,22,none⟩=some (.pointer (some ⟨a.l,0,none⟩)):=h.blk.cell 22
theorem Eg.x24 (h:Eg N w0 w c a q Z s L) :w.cell? ⟨q.e,24,none⟩=some (.pointer (some ⟨a.n,0,none⟩)):=h.blk.cell 24
theorem Eg.x27 (h:Eg N w0 w c a q Z s L) :w.cell? ⟨q.e,27,none⟩=some (.pointer (some ⟨a.p,0,none⟩)):=h.blk.cell 27
theorem Of.k0 (h:Of N w0 w c a q Z s L b o)(hN:11≤N) :w.cell? ⟨b,0,none⟩=some (.int .i64 o.kd):=(h.op hN).cell 0
theorem Of.k1 (h:Of N w0 w c a q Z s L b o)(hN:11≤N) :w.cell? ⟨b,1,none⟩=some (.int .i64 o.ix):=(h.op hN).cell 1
theorem Of.k2 (h:Of N w0 w c a q Z s L b o)(hN:11≤N) :w.cell? ⟨b,2,none⟩=some (.int .i64 o.tg):=(h.op hN).cell 2
theorem Of.k3 (h:Of N w0 w c a q Z s L b o)(hN:11≤N) :w.cell? ⟨b,3,none⟩=some (.int .u64 o.am):=(h.op hN).cell 3
end
def rcP (r:Rp) :Rc:=⟨r.kd,r.cd,r.ix,r.bl,r.ep,r.dl,none,0,0,none,0,0,r.vs⟩
def tS (N:Nat)(w0:DR)(c:Nat→Int)(a:Pl)(q:Ql)(Z:Nat→Zc→(Nat→Prop)→Prop)(x:Rp × Sg)(L:List QT)(e:Ending)(w:Zc) :Prop:=e= .returned (.agg (Zw (rcP x.1)))∧Eg N w0 w c a q Z x.2 L
end
section
open Go Go.RowKit Go.Deep
theorem Ng {c:Nat→Int}{s:Sg}{o:Oq}{k:Int}(h:PF c s o.am=k)(hk:k≠0) :Fw c s o=(Ge s o.kd k,s):=by unfold Fw; rw [h,if_neg hk]
theorem ou {c:Nat→Int}{s:Sg}{o:Oq}(h:PF c s o.am=0) :Fw c s o=(Fo s o.kd s.V.length (-1),Hr s o.am):=by unfold Fw; rw [if_pos h]
theorem Inv.fits06 {c:Nat→Int}{k:Nat}{s:Sg}(hc:GE c)(h:Inv c k s) :JJ s.D s.P s.B (c 4):=by
 have h0:=h.total hc;have h1:=h.sum;have h2:=h.p0;have h3:=h.b0;have h4:=h.d1;have h5:=h.cap;have h6:=hc.a4;have h7:=hc.a2;have h8:=hc.a23;have h9:=hc.a3;unfold JJ;omega
section
variable {N:Nat} {w0:DR} {w w' w1:Zc} {c:Nat→Int} {a:Pl} {q:Ql} {Z:Nat→Zc→(Nat→Prop)→Prop} {s s':Sg} {L L':List QT} {k:Nat}
theorem oz (hc:GE c)(hi:Inv c k s)(hk:k≤1000000)(h:Eg N w0 w c a q Z s L)(o:Oq)(ho:Kk o) :Zj Zb 83 #[.pointer (some ⟨q.e,0,none⟩),.agg (ZM o)] w (tS N w0 c a q Z (Fw c s o) L):=by
 have hN:=h.low;have hO:=DA h o;have HT:=Za (hi.tm hc hk);have HN:=Za hN;have HC:=Za hc;have HI:=Za hi;have HF:=Za ho;clear hc hi ho hN h;go_enter Tryz.func83,Tryz.ntmps83;go_upto_region 1 with (fail);generalize hW:(w.alloc (.cells (ZM o) 37)).alloc (.cells _ 42)=W;have eW:(w.alloc (.cells (ZM o) 37)).alloc (.cells (Zw Gg) 42)=W:=hW;rw [eW] at hO;generalize w.heap.size=b at*;have k3:=Of.k3 hO HN.out;have x2:=Eg.x2 hO;have x3:=Eg.x3 hO;have HO:=Za hO;clear hW eW hO
 by_cases h1:o.am < c 2
 ·have HE:Hid (Fw c s o=(Ge s o.kd 3,s)):=Za (Ng (by unfold PF; exact if_pos (.inl h1)) YU);clear HI HF HC;go_quiet (fail);have HD:Hid (Of N w0 (W.drewN nq) c a q Z s L b o):=Za (Kp HO.out nq);clear HO k3 x2 x3;generalize W.drewN nq=V at*;exact ZfG
 by_cases h2:c 3 < o.am
 ·have HE:Hid (Fw c s o=(Ge s o.kd 3,s)):=Za (Ng (by unfold PF; exact if_pos (.inr h2)) YU);clear HI HF HC;have d1:decide (o.am < c 2)=false:=decide_eq_false h1;have d2:decide (c 3 < o.am)=true:=decide_eq_true h2;clear h1 h2;go_quiet (fail);have TP:Hid (Of N w0 (W.drewN nq) c a q Z s L b o):=Za (Kp HO.out nq);generalize W.drewN nq=W1 at*;have k3:=Of.k3 TP.out HN.out;have x2:=Eg.x2 TP.out;have x3:=Eg.x3 TP.out;go_wp2_with fail;go_quiet (fail);have HD:Hid (Of N w0 (W1.drewN nq) c a q Z s L b o):=Za (Kp TP.out nq);clear HO TP k3 x2 x3;generalize W1.drewN nq=V at*;exact ZfG
 have d1:decide (o.am < c 2)=false:=decide_eq_false h1;have d2:decide (c 3 < o.am)=false:=decide_eq_false h2;have TR: ¬(o.am < c 2∨c 3 < o.am):=by rintro (h | h)<;> omega
 clear h1 h2;go_quiet (fail);have TP:Hid (Of N w0 (W.drewN nq) c a q Z s L b o):=Za (Kp HO.out nq);clear HO k3 x2 x3;generalize W.drewN nq=W1 at*;have k3:=Of.k3 TP.out HN.out;have x2:=Eg.x2 TP.out;have x3:=Eg.x3 TP.out;go_wp2_with fail;go_quiet (fail);have N4:Hid (Of N w0 (W1.drewN nq) c a q Z s L b o):=Za (Kp TP.out nq);clear TP k3 x2 x3 d1 d2;generalize W1.drewN nq=W2 at*;go_wp2_with fail;have x21:=Eg.x21 N4.out;have x0:=Eg.x0 N4.out;have tL:Hid (∀m,Zj Zb 119 #[.pointer (some ⟨a.r,0,none⟩)] (W2.drewN m) fun e w'=>e= .returned (.int .i64 s.V.length)∧W2.drewN m=w'):=Za (fun m=>by
  obtain ⟨X,hX,Uf,hh,_⟩:=Eg.open (Kp N4.out m);exact hh.len Uf)
 obtain ⟨n,hn⟩ : ∃n,s.V.length=n:=⟨_,rfl⟩;rw [hn] at tL;have HNn:=Za hn
 by_cases h3:(n:Int)=c 0
 ·have HE:Hid (Fw c s o=(Ge s o.kd 5,s)):=Za (Ng (by unfold PF; rw [if_neg TR,if_pos (by rw [hn]; omega)]) YU);have d3:((n:Int)==c 0)=true:=by simp [h3]
  clear h3 TR HI HF HC hn;go_quiet ((go_at_call 119; exact Bw (tL.out _)));have HD:Hid (Of N w0 (W2.drewN nq) c a q Z s L b o):=Za (Kp N4.out nq);clear N4 x21 x0 tL HNn;generalize W2.drewN nq=V at*;have VJ:=Za (Kx HD.out HN.out);go_wp2_with (first | (refine Zn rfl 37 _ rfl b rfl 37 _ (0,0) _ VJ.out ZV rfl QL ?_));refine (Vw (N:=N+2) HD.out HT.out o 5).mono ?_;rintro e w9 ⟨rfl,h9⟩;have H9:Hid (Of N w0 w9 c a q Z s L b o):=Za h9;have VG:=Za (V6 h9 HN.out);clear h9 VJ HD;go_wp2_with (first | (refine Zo rfl _ _ _ rfl (b+1) (Zw (VX o.kd 5 s.bk s.ep)) rfl rfl 42 _ VG.out YS rfl (YH _) ?_));exact ZL (v:= .agg (Zw (VX o.kd 5 s.bk s.ep))) (ZO (fn:=Tryz.f83) rfl _ _ (b+1) 42 _ (0,0) _ rfl (Z6 _ _ _ _ _ _ VG.out) Yb rfl YS) rfl (Zh JW KU)
 have d3:((n:Int)==c 0)=false:=by simp [h3]
 have h3': ¬c 0≤(s.V.length:Int):=by have:=HI.out.len; rw [hn] at this ⊢; omega
 clear h3 hn;go_quiet ((go_at_call 119; exact Bw (tL.out _)));have PX:Hid (Of N w0 (W2.drewN nq) c a q Z s L b o):=Za (Kp N4.out nq);clear N4 x21 x0 tL d3;generalize W2.drewN nq=W3 at*;have x27:=Eg.x27 PX.out;have HFr:Hid (Zj Zb 120 #[.pointer (some ⟨a.p,0,none⟩)] W3 fun e w'=>e= .returned (.int .i64 (((c 1).toNat - s.pd.length:Nat) :Int))∧ ∃m,w'=W3.drewN m):=Za (by
  obtain ⟨X,hX,Uf,hh,_⟩:=Eg.open PX.out;exact hh.pfree Uf)
 obtain ⟨f,hf⟩ : ∃f:Nat,(c 1).toNat - s.pd.length=f:=⟨_,rfl⟩;rw [hf] at HFr
 by_cases h4:c 1≤(s.pd.length:Int)
 ·have HE:Hid (Fw c s o=(Ge s o.kd 6,s)):=Za (Ng (by unfold PF; rw [if_neg TR,if_neg h3',if_pos h4]) YU);obtain rfl:f=0:=by omega
  clear h4 h3' TR HI HF HC hf;go_wp2_with fail;refine HFr.out.mono ?_;rintro e w' ⟨rfl,m,rfl⟩;have HD:Hid (Of N w0 (W3.drewN m) c a q Z s L b o):=Za (Kp PX.out m);clear PX x27 HFr HNn;generalize W3.drewN m=V at*;have VJ:=Za (Kx HD.out HN.out);go_wp2_with (first | (refine Zn rfl 37 _ rfl b rfl 37 _ (0,0) _ VJ.out ZV rfl QL ?_));refine (Vw (N:=N+2) HD.out HT.out o 6).mono ?_;rintro e w9 ⟨rfl,h9⟩;have H9:Hid (Of N w0 w9 c a q Z s L b o):=Za h9;have VG:=Za (V6 h9 HN.out);clear h9 VJ HD;go_wp2_with (first | (refine Zo rfl _ _ _ rfl (b+1) (Zw (VX o.kd 6 s.bk s.ep)) rfl rfl 42 _ VG.out YS rfl (YH _) ?_));exact ZL (v:= .agg (Zw (VX o.kd 6 s.bk s.ep))) (ZO (fn:=Tryz.f83) rfl _ _ (b+1) 42 _ (0,0) _ rfl (Z6 _ _ _ _ _ _ VG.out) Yb rfl YS) rfl (Zh JW KU)
 have hfp:((f:Int)==0)=false:=by simp; omega
 clear hf;go_wp2_with fail;refine HFr.out.mono ?_;rintro e w' ⟨rfl,m,rfl⟩;have Pz:Hid (Of N w0 (W3.drewN m) c a q Z s L b o):=Za (Kp PX.out m);clear PX x27 HFr;generalize W3.drewN m=W4 at*;have h4': ¬c 1≤(s.pd.length:Int):=by omega
 have fa:=HF.out.2.2.2;have a0:0≤o.am:=(bounds_u64 fa).1;have a1:o.am≤18446744073709551615:=(bounds_u64 fa).2;have hF6:JJ s.D s.P s.B (c 4):=Inv.fits06 HC.out HI.out;go_wp2_with fail;have hOD:Of N w0 W4.drew c a q Z s L b o:=Eg.drew Pz.out
 by_cases h5:c 4 -(s.D - s.P - s.B)< o.am∨(o.am≤c 4 -(s.D - s.P - s.B)∧18446744073709551615 < s.D+o.am)
 ·obtain ⟨kk,po⟩ : ∃kk:Int,(if c 4 -(s.D - s.P - s.B)< o.am then 4 else 10)=kk:=⟨_,rfl⟩;have HE:Hid (Fw c s o=(Ge s o.kd kk,s)):=Za (Ng (by
   unfold PF;rw [if_neg TR,if_neg Ze,if_neg Ze,←po]
   rcases h5 with h5 | ⟨h5,h6⟩
   ·rw [if_pos h5,if_pos h5]
   ·rw [if_neg Ze,if_pos h6,if_neg Ze]) (by rw [←po]; split <;> decide))
  have dk:(kk != 0)=true:=by rw [←po]; split <;> rfl
  have HA:=Za (uK (N:=N+2) hOD hF6 a0 a1 h5);rw [po] at HA;have HO5:=Za hOD;clear TR h3' h4' h4 h5 fa a0 a1 hF6 po HI HF HC hfp HNn hOD;refine M0 (fun w'=>Blk w' b 37 (ZM o)) 10 5 [0,1,2,3,4] (?_) ?_
  ·exact HO5.out.op HN.out
  refine Kg ?_;refine NX ?_;refine BN ?_;refine YJ _ _ ⟨b,3,none⟩ (.int .u64 o.am) rfl rfl rfl (fun w h=>by simp [go_sem,h]) (fun w h=>h.cell 3) ?_;refine Qe ?_;refine Qc ?_;clear Pz;generalize W4.drew=V at*;refine EE ?_;refine JG ?_;refine JZ #[.pointer (some ⟨q.e,21,none⟩),.int .u64 o.am] Tryz.call121 ((HA.out).mono ?_);rintro e w2 ⟨rfl,hb⟩;have HD:Hid (Of N w0 w2 c a q Z s L b o):=Za (Eg.below HO5.out hb);refine ⟨_,rfl,HD.out.op HN.out,?_⟩;clear hb HA HO5;refine JG ?_;refine hfT (fun w'=>Blk w' b 37 (ZM o)) (m:=4) (f:=0) [6,7,8,9] (?_) ?_
  ·exact HD.out.op HN.out
  refine Kg ?_;refine Ma ?_;refine BN ?_;refine Qc ?_;refine Bn ?_;refine ⟨by kernel_rfl,?_⟩;refine LY ?_;go_wp2_with fail;refine GM ?_;have VJ:=Za (Kx HD.out HN.out);go_wp2_with (first | (refine Zn rfl 37 _ rfl b rfl 37 _ (0,0) _ VJ.out ZV rfl QL ?_));refine (Vw (N:=N+2) HD.out HT.out o kk).mono ?_;rintro e w9 ⟨rfl,h9⟩;have H9:Hid (Of N w0 w9 c a q Z s L b o):=Za h9;have VG:=Za (V6 h9 HN.out);clear h9 VJ HD;go_wp2_with (first | (refine Zo rfl _ _ _ rfl (b+1) (Zw (VX o.kd kk s.bk s.ep)) rfl rfl 42 _ VG.out YS rfl (YH _) ?_));exact ZL (v:= .agg (Zw (VX o.kd kk s.bk s.ep))) (ZO (fn:=Tryz.f83) rfl _ _ (b+1) 42 _ (0,0) _ rfl (Z6 _ _ _ _ _ _ VG.out) Yb rfl YS) rfl (Zh JW KU)
 ·have HE:Hid (Fw c s o=(Fo s o.kd s.V.length (-1),Hr s o.am)):=Za (ou (by
   unfold PF;rw [if_neg TR,if_neg Ze,if_neg Ze,if_neg Ze,if_neg Ze]))
  have HA:=Za (Zij (N:=N+2) hOD hF6 a0 a1 Ze Ze Ze (by have:=HI.out.total HC.out; have:=HI.out.sum; have:=HI.out.p0; have:=HI.out.b0; omega));have nw:Hid (Tm c (Hr s o.am)):=Za ⟨HT.out.b0,HT.out.b1,HT.out.l,HT.out.q⟩;have HO5:=Za hOD;have HPl:Hid ((s.pd.length:Int)< c 1):=Za Ze;rw [HNn.out] at HA;clear TR h3' h4' h4 h5 fa a0 a1 hF6 HI HF HC hfp hOD;refine M0 (fun w'=>Blk w' b 37 (ZM o)) 10 5 [0,1,2,3,4] (?_) ?_
  ·exact HO5.out.op HN.out
  refine Kg ?_;refine NX ?_;refine BN ?_;refine YJ _ _ ⟨b,3,none⟩ (.int .u64 o.am) rfl rfl rfl (fun w h=>by simp [go_sem,h]) (fun w h=>h.cell 3) ?_;refine Qe ?_;refine Qc ?_;clear Pz;generalize W4.drew=V at*;refine EE ?_;refine JG ?_;refine JZ #[.pointer (some ⟨q.e,21,none⟩),.int .u64 o.am] Tryz.call121 ((HA.out).mono ?_);rintro e w2 ⟨rfl,hb⟩;have HD:Hid (Of N w0 w2 c a q Z { s with V:=s.V++[MH o.am],D:=s.D+o.am} L b o):=Za hb;refine ⟨_,rfl,HD.out.op HN.out,?_⟩;clear hb HA HO5;refine JG ?_;refine hfT (fun w'=>Blk w' b 37 (ZM o)) (m:=4) (f:=0) [6,7,8,9] (?_) ?_
  ·exact HD.out.op HN.out
  refine Kg ?_;refine Ma ?_;refine BN ?_;refine Qc ?_;refine Bn ?_;refine ⟨by kernel_rfl,?_⟩;refine LY ?_;go_wp2_with fail;refine GM ?_;have x27:=Eg.x27 HD.out;have Wv:Hid (Zj Zb 122 #[.pointer (some ⟨a.p,0,none⟩),.slice (some ⟨w2.heap.size,0,none⟩) 1 1] (w2.alloc (.cells #[.int .i64 (n:Int)] 3)) fun e w'=>e= .returned (.int .i64 1)∧Of N w0 w' c a q Z (Hr s o.am) L b o):=Za (by
   obtain ⟨X,hX,Uf,hh,hK,_⟩:=Eg.open HD.out;refine (hh.ppush hX Uf (x:=(n:Int)) HPl.out).mono fun e w' ⟨he,h1,_⟩=>⟨he,?_⟩
   have h2:=hK _ _ _ h1 rfl rfl;unfold Hr;rw [HNn.out];exact h2)
  clear HD;go_wp2_with fail;refine Wv.out.mono ?_;rintro e w5 ⟨rfl,h5⟩;have HD:=Za h5;clear h5 Wv x27;rw [HNn.out] at HE;have VJ:=Za (Kx HD.out HN.out);have kY:=Of.k1 HD.out HN.out;go_wp2_with (first | (refine Zn rfl 37 _ rfl b rfl 37 _ (0,0) _ VJ.out ZV rfl QL ?_));refine (DT (N:=N+2) HD.out nw.out o (n:Int) (-1)).mono ?_;rintro e w9 ⟨rfl,h9⟩;have H9:Hid (Of N w0 w9 c a q Z (Hr s o.am) L b o):=Za h9;have VG:=Za (V6 h9 HN.out);clear h9 VJ HD kY;go_wp2_with (first | (refine Zo rfl _ _ _ rfl (b+1) (Zw (Bo o.kd (n:Int) (-1) s.bk s.ep)) rfl rfl 42 _ VG.out YS rfl (YH _) ?_));exact ZL (v:= .agg (Zw (Bo o.kd (n:Int) (-1) s.bk s.ep))) (ZO (fn:=Tryz.f83) rfl _ _ (b+1) 42 _ (0,0) _ rfl (Z6 _ _ _ _ _ _ VG.out) Yb rfl YS) rfl (Zh JW KU)
end
end
section
open Go Go.RowKit Go.Deep
theorem rB {V:List Yd}{n:Nat}{v:Yd}(h:V[n]?=some v) :wV V (n:Int)=v.bal:=by
 have hl:=(Zi.1 h).1;unfold wV KM;rw [if_pos ⟨by omega,by unfold Jz; rw [YE]; omega⟩,Int.toNat_natCast,Zq];unfold Jz;rw [ZP,h]; rfl
theorem Ay: ∀(I:List Int) (V:List Yd),(∀v ∈ V,Yo v)→I.Nodup→(∀i ∈ I,∃n:Nat,i=(n:Int)∧n < V.length)→QB (I.map (wV V)) I.length≤Zz V
 | [],V,hf,_,_=>Ka hf
 | i::I,V,hf,hn,hI=>by
  obtain ⟨h1,h2⟩:=List.nodup_cons.1 hn;obtain ⟨n,rfl,hnl⟩:=hI i ZI;have hv:V[n]?=some (V[n]):=Zf hnl;generalize V[n]=v at hv;have vg:=hf v (QM hv);have hf': ∀x ∈ V.set n { v with bal:=0},Yo x:=Gw hf ⟨rfl,vg.2⟩;have ih:=Ay I (V.set n { v with bal:=0}) hf' h2 (fun j hj=>by
   obtain ⟨m,e,hm⟩:=hI j LF;exact ⟨m,e,by rw [List.length_set]; exact hm⟩)
  have hm:I.map (wV (V.set n { v with bal:=0}))=I.map (wV V):=List.map_congr_left fun j hj=>by
   obtain ⟨m,rfl,hm⟩:=hI j LF;have KF:n≠m:=fun e=>h1 (by rw [e]; exact hj)
   have hu:V[m]?=some (V[m]):=Zf hm;rw [rB hu,rB (v:=V[m]) (by rw [List.getElem?_set_ne KF]; exact hu)]
  rw [hm,J3 hv] at ih;rw [List.map_cons,List.length_cons,Bz,rB hv];simp only at ih;omega
theorem N6 (F W:List Int)(cl:Int) :(KK F W cl).Sublist (F++W):=by
 unfold KK
 split
 ·exact List.sublist_append_left _ _
 ·split
  ·exact List.Sublist.refl _
  ·exact List.nil_sublist _
section
variable {N:Nat} {w0:DR} {w w' w1:Zc} {c:Nat→Int} {a:Pl} {q:Ql} {Z:Nat→Zc→(Nat→Prop)→Prop} {s s':Sg} {L L':List QT} {k:Nat}
theorem Inv.ahead (hc:GE c)(h:Inv c k s)(cl:Int) :BW ((KK s.F s.W cl).map (wV s.V)) (KK s.F s.W cl).length=true∧BU (Hl ((KK s.F s.W cl).map (wV s.V)) (KK s.F s.W cl).length):=by
 have h1:=Ay (KK s.F s.W cl) s.V h.fits (h.lnn.sublist (N6 _ _ _)) (fun i hi=>by
  obtain ⟨m,u,e,hu,_⟩:=h.lnx i ((N6 _ _ _).subset hi);exact ⟨m,e,(Zi.1 hu).1⟩)
 have h2:=h.total hc;have h3:0≤QB ((KK s.F s.W cl).map (wV s.V)) (KK s.F s.W cl).length:=Df (fun i=>by
  rw [Zq,ZP]
  cases (KK s.F s.W cl)[i]? with
  | none=>exact Int.le_refl _
  | some x=>exact AG h.fits x) _
 have h4:QB ((KK s.F s.W cl).map (wV s.V)) (KK s.F s.W cl).length≤18446744073709551615:=by omega
 obtain ⟨h5,h6⟩:=M8 h4;exact ⟨h5,by rw [h6]; exact ⟨h3,h4⟩⟩
theorem MG (x:Option Int) :KQ x= .tuple #[.int .i64 (x.getD 0),.bool x.isSome]:=by cases x <;> rfl
theorem Zav (hc:GE c)(h:Inv c k s)(cl:Int)(v:Yd) :ff (Hl ((KK s.F s.W cl).map (wV s.V)) (KK s.F s.W cl).length) v.bal c s.ep=R0 c s cl v:=by
 rw [vW hc.g];unfold R0;rw [if_pos (h.ahead hc cl).1]
theorem oG (hc:GE c)(hi:Inv c k s)(hk:k≤1000000)(h:Eg N w0 w c a q Z s L){v:Yd}(hv:Yo v)(cl:Int) :
  Zj Zb 185 #[.pointer (some ⟨q.e,0,none⟩),.agg (Zd v),.int .i64 cl] w fun e w'=>e= .returned (KQ (R0 c s cl v))∧Eg N w0 w' c a q Z s L:=by
 have hN:=h.low;have h1:=h.box (Zd v) 63;have hB0:Hid (Blk (w.alloc (.cells (Zd v) 63)) w.heap.size 63 (Zd v)):=Za (Blk.new _ _ _);obtain ⟨t0,t1,t2,t3⟩:=hi.tm hc hk;have hln:s.V.length≤4096:=by have:=hi.len; have:=hc.g.cap1; omega
 have H1:=Za h1;have HN:=Za hN;obtain ⟨A,hA⟩ : ∃A,KK s.F s.W cl=A:=⟨_,rfl⟩;obtain ⟨x,hx⟩ : ∃x,Hl (A.map (wV s.V)) A.length=x:=⟨_,rfl⟩;have Zet:BU x:=by have:=(hi.ahead hc cl).2; rw [hA,hx] at this; exact this
 have ZaR:=Zav hc hi cl v;rw [hA,hx] at ZaR;have HDue:=Za ZaR;have HP:=Za (fun w=>lF hc.g Zet (show BU v.bal from bounds_u64 hv.1) s.ep w);have yB:A.length≤100000:=by
  have h3:=(N6 s.F s.W cl).length_le;rw [hA,List.length_append] at h3;have:=hi.fl; have:=hi.wl; have:=hc.q1; omega
 have HFi:=Za hi.fits;have HX:=Za (Zh hA (Zh hx (Zh yB hln)));have HT:=Za (Zh t0 (Zh t1 (Zh t2 t3)));clear hc hi hk h h1 hv hN hA hx Zet ZaR yB hln t0 t1 t2 t3;go_enter Tryz.func185,Tryz.ntmps185;go_upto_region 1 with (fail);generalize w.alloc (.cells (Zd v) 63)=W at*;generalize hz:w.heap.size=b at*;clear hz;have tG:=Za (yr (Eg.drew H1.out) (by have:=HX.out.2.2.2; omega));refine M0 (fun w'=>Blk w' q.e 107 (Uw c a q)) 16 7 [0,1,2,4,5,6,7,8,9] (?_) ?_
 ·exact (Eg.drew H1.out).blk
 refine Kg ?_;refine mD ?_;refine gL ?_;refine Zfx ?_;refine Qe ?_;refine GN ?_;refine Qc ?_;generalize W.drew=V at*;refine hfO (i:=3) ?_;refine JG ?_;refine JZ #[.pointer (some ⟨q.e,21,none⟩)] Tryz.call212 ((tG.out).mono ?_);rintro e w2 ⟨vb,rfl,h2,hle⟩;have H2:=Za h2;refine ⟨_,rfl,h2.blk,?_⟩;clear h2 tG hle;have HAh:Hid (Zj Zb 238 #[.pointer (some ⟨a.n,0,none⟩),.int .i64 cl] w2 fun e w'=> ∃va,e= .returned va∧Eg (N+1+1+1) w0 w' c a q (ZD (ZD (ZD Z N (YW b 63 (Zd v))) (N+1) (YK 22 1 vb s.V.length ((Jz s.V).map Ey))) (N+1+1) (YK 3 1 va A.length (A.map (Value.int .i64)))) s L):=Za (by
  obtain ⟨X,hX,Uf,hh,_,hK,_⟩:=H2.out.open;refine (hh.ahead hX Uf cl).mono fun e w' ⟨va,he,g1,_⟩=>⟨va,he,?_⟩
  have g2:=hK _ _ _ _ g1 stays_row rfl rfl;rw [HX.out.1] at g2;exact g2)
 refine hfO (i:=10) ?_;refine JG ?_;refine JZ #[.pointer (some ⟨a.n,0,none⟩),.int .i64 cl] Tryz.call238 ((HAh.out).mono ?_);rintro e w3 ⟨va,rfl,h3⟩;have H3:=Za h3;refine ⟨_,rfl,h3.blk,?_⟩;clear h3 HAh H2;have HWt:Hid (Zj Zb 237 #[vb,va] w3 fun e w'=> ∃bb,e= .returned (.tuple #[.int .u64 x,.bool bb])∧Below w3.heap.size w3 w'):=Za (by
  have r1:=H3.out.row (r:=N+1) ZJ Ze Ug;have r2:=H3.out.row (r:=N+1+1) ZJ Ze xput_same;obtain ⟨ia,ic,rfl,hl1,_,_,hia⟩:=VU (S:=fun _=>False) r2 (fun _ _ h=>h);obtain ⟨ua,uc,rfl,pq,_,hua⟩:=Fq (S:=fun _=>False) (L:=Jz s.V) r1 (fun _ _ h=>h);have:=cM (cap:=uc) (ic:=ic) hua (by rw [pq]; have:=HX.out.2.2.2; omega) (fun j=>dw HFi.out j) hia HX.out.2.2.1;rw [pq] at this;exact this.mono fun e w' ⟨he,hb⟩=>⟨BW (A.map (wV s.V)) A.length,by rw [he,←HX.out.2.1]; rfl,hb⟩)
 refine hfO (i:=11) ?_;refine JG ?_;refine JZ #[vb,va] Tryz.call237 ((HWt.out).mono ?_);rintro e w4 ⟨bb,rfl,hb⟩;have h4:Eg (N+1) w0 w4 c a q (ZD Z N (YW b 63 (Zd v))) s L:=(((H3.out.below hb).less ZJ).less ZJ).ext fun k h1 h2=>by rw [xput_ne Ze,xput_ne Ze]
 have H4:=Za h4;refine ⟨_,rfl,h4.blk,?_⟩;clear h4 hb HWt H3;refine JG ?_;refine hfT (fun w'=>Blk w' q.e 107 (Uw c a q)) (m:=4) (f:=0) [12,13,14,15] (?_) ?_
 ·exact H4.out.blk
 refine Kg ?_;refine Ma ?_;refine BN ?_;refine Qc ?_;refine Bn ?_;refine ⟨by kernel_rfl,?_⟩;refine LY ?_;go_wp2_with fail;refine GM ?_;go_wp2_with fail;have H5:=Za (H4.out.drew);have tI:=Za (Bd H5.out HT.out.1 HT.out.2.1 HT.out.2.2.1 HT.out.2.2.2);have Wu:Hid (Blk w4.drew b 63 (Zd v)):=Za (H5.out.blkAt (r:=N) HN.out Ze xput_same);refine M0 (fun w'=>Blk w' q.e 107 (Uw c a q)∧Blk w' b 63 (Zd v)) 14 4 [0,1,2,4,5,6,7,8,9,10] (?_) ?_
 ·exact ⟨H5.out.blk,Wu.out⟩
 refine Kg ?_;refine gK ?_;refine TJ ?_;refine YJ _ _ ⟨b,0,none⟩ (.int .u64 v.bal) rfl rfl rfl (fun w h=>by simp [go_sem,h]) (fun w h=>h.2.cell 0) ?_;refine Qe ?_;refine DP ?_;refine FI 24 _ q.e 0 (Zk c).toList _ rfl rfl rfl (fun w h=>Nh h.1) Tryz.underlying24 rfl XG ?_;refine JG ?_;refine Qc ?_;generalize w4.drew=V4 at*;refine hfO (i:=3) ?_;refine JZ #[.pointer (some ⟨q.e,20,none⟩)] Ke ((tI.out).mono ?_);rintro e w5 ⟨rfl,m,rfl⟩;have h6:=H5.out.drewN m;refine ⟨_,rfl,⟨h6.blk,Wu.out⟩,?_⟩;have H6:=Za h6;clear h6;refine hfO (i:=11) ?_;refine JG ?_;refine JZ #[.int .i64 s.ep,.int .u64 x,.int .u64 v.bal,.agg (Zk c)] Tryz.call239 ((HP.out (V4.drewN m)).mono ?_);rintro e w6 ⟨rfl,hb⟩;have h7:=H6.out.below hb;have H7:=Za h7;refine ⟨_,rfl,⟨h7.blk,h7.blkAt (r:=N) HN.out Ze xput_same⟩,?_⟩;clear hb h7 H6 H5 tI Wu;rw [HDue.out,MG];refine JG ?_;refine hfT (fun w'=>Blk w' q.e 107 (Uw c a q)∧Blk w' b 63 (Zd v)) (m:=2) (f:=0) [12,13] (?_) ?_
 ·exact ⟨H7.out.blk,H7.out.blkAt (r:=N) HN.out Ze xput_same⟩
 refine Kg ?_;show ZW _ _ _ _ [_,_] _;refine BL ?_;refine Qc ?_;refine Bn ?_;refine ⟨by kernel_rfl,?_⟩;refine LY ?_;go_wp2_with fail;refine GM ?_;go_wp2_with fail;go_ret2;exact ⟨by rw [MG]; rfl,H7.out.drop HN.out⟩
end
end
section
open Go Go.RowKit Go.Deep
section
variable {N:Nat} {w0:DR} {w w' w1:Zc} {c:Nat→Int} {a:Pl} {q:Ql} {Z:Nat→Zc→(Nat→Prop)→Prop} {s s':Sg} {L L':List QT} {k:Nat}
theorem Cn {o:Oq}{cl kk:Int}(h:mM c s o.ix cl=kk)(hk:kk≠0) :exO c s o cl=(Ge s o.kd kk,s):=by unfold exO; rw [h,if_neg hk]
theorem uT {o:Oq}{cl:Int}(h:mM c s o.ix cl=0) :exO c s o cl=(Fo s o.kd o.ix (yy c s o.ix cl),P4 c s o.ix cl):=by unfold exO; rw [if_pos h]
theorem oB (hc:GE c)(hi:Inv c k s)(hk:k≤1000000)(h:Eg N w0 w c a q Z s L)(o:Oq)(ho:Kk o){cl:Int}(ES:cl=0∨cl=1) :Zj Zb 124 #[.pointer (some ⟨q.e,0,none⟩),.agg (ZM o),.int .i64 cl] w (tS N w0 c a q Z (exO c s o cl) L):=by
 have hN:=h.low;have hO:=DA h o;have HT:=Za (hi.tm hc hk);have HN:=Za hN;have HC:=Za (Zh hc (Zh hi (Zh hk (Zh ho ES))));have hex:=Zei hi hk o.ix cl;have tH:=Za hex;obtain ⟨u,hu⟩ : ∃u,(if Et s.V o.ix=true then ZZ else Ub s.V o.ix)=u:=⟨_,rfl⟩;obtain ⟨ok,PJ⟩ : ∃ok,(!Et s.V o.ix)=ok:=⟨_,rfl⟩;have HU:=Za (Zh hu PJ);have tJ:Hid (∀wx,Of N w0 wx c a q Z s L w.heap.size o→Zj Zb 70 #[.pointer (some ⟨a.r,0,none⟩),.int .i64 o.ix] wx fun e w'=>e= .returned (.tuple #[.agg (Zd u),.bool ok])∧Below wx.heap.size wx w'):=Za (fun wx hx=>by
  obtain ⟨X,hX,Uf,hh,_⟩:=Eg.open hx
  cases hb:Et s.V o.ix with
  | true=>
   rw [hb] at hu PJ;rw [←hu,←PJ];exact hh.get_out Uf (by simpa [Et] using hb)
  | false=>
   rw [hb] at hu PJ;obtain ⟨n,e,hn⟩:=Bb hb;rw [←hu,←PJ];have:=hh.get_in Uf hn;rw [←e] at this;exact this)
 clear hc hi hk ho ES hN h hex hu PJ;go_enter Tryz.func124,Tryz.ntmps124;go_upto_region 1 with (fail);generalize hW:(w.alloc (.cells (ZM o) 37)).alloc (.cells _ 42)=W;have eW:(w.alloc (.cells (ZM o) 37)).alloc (.cells (Zw Gg) 42)=W:=hW;rw [eW] at hO;generalize w.heap.size=b at*;have HO:=Za hO;clear hW eW hO;go_cut [7,8] from 9 to 20 (fun s7 s8 wx=> ∃zb:Nat,s7= .pointer (some ⟨zb,0,none⟩)∧s8= .bool ok∧Hid (Eg (N+2+1) w0 wx c a q (ZD (ZD (ZD Z N (YW b 37 (ZM o))) (N+1) (YW (b+1) 42 (Zw Gg))) (N+2) (YW zb 63 (Zd u))) s L))
 case first=>
  exact zT1
 case rest=>
  obtain ⟨zb,rfl,rfl,HE⟩:=hcut;clear tJ HO
  cases hb:Et s.V o.ix with
  | true=>
   have db:Hid (exO c s o cl=(Ge s o.kd 7,s)):=Za (Cn (by rw [tH.out,if_pos hb]) YU);obtain rfl:ok=false:=by rw [←HU.out.2,hb]; rfl
   have HD:Hid (Of N w0 wc c a q Z s L b o):=Za (HE.out.drop ZJ);have HE:=db;clear db tH HU HC hb;have VJ:=Za (Kx HD.out HN.out);go_wp2_with (first | (refine Zn rfl 37 _ rfl b rfl 37 _ (0,0) _ VJ.out ZV rfl QL ?_));refine (Vw (N:=N+2) HD.out HT.out o 7).mono ?_;rintro e w9 ⟨rfl,h9⟩;have H9:Hid (Of N w0 w9 c a q Z s L b o):=Za h9;have VG:=Za (V6 h9 HN.out);clear h9 VJ HD;go_wp2_with (first | (refine Zo rfl _ _ _ rfl (b+1) (Zw (VX o.kd 7 s.bk s.ep)) rfl rfl 42 _ VG.out YS rfl (YH _) ?_));exact ZL (v:= .agg (Zw (VX o.kd 7 s.bk s.ep))) (ZO (fn:=Tryz.f124) rfl _ _ (b+1) 42 _ (0,0) _ rfl (Z6 _ _ _ _ _ _ VG.out) Yb rfl YS) rfl (Zh JW KU)
  | false=>
   obtain rfl:ok=true:=by rw [←HU.out.2,hb]; rfl
   have hu:=HU.out.1;rw [hb] at hu;replace hu:Ub s.V o.ix=u:=hu;obtain ⟨n,hn,aN⟩:=Bb hb;have hex:=tH.out;rw [hb,hu] at hex;replace hex:mM c s o.ix cl=if u.st≠2 then 8 else if c 1≤(U4 s.F s.W cl).length then 6 else if R0 c s cl u=none then 10 else 0:=hex
   rw [hu] at aN;have HV:=Za (Zh hn (Zh aN hu));have HX:=Za hex;have y1:wc.cell? ⟨zb,1,none⟩=some (.int .i64 u.st):=(HE.out.blkAt (r:=N+2) ZJ Ze xput_same).cell 1;clear tH HU hb hex hu hn aN
   by_cases h2:u.st=2
   ·have d2:(u.st != 2)=false:=by simp [h2]
    have HF:Hid (Zj Zb 125 #[.pointer (some ⟨q.e,24,none⟩),.int .i64 cl] wc fun e w'=>e= .returned (.bool (((Hw (c 1).toNat s.F s.W cl:Nat) :Int)==0))∧ ∃m,w'=wc.drewN m):=Za (yu HE.out cl);obtain ⟨f,hf⟩ : ∃f,Hw (c 1).toNat s.F s.W cl=f:=⟨_,rfl⟩;rw [hf] at HF;rw [MB HC.out.2.2.2.2] at hf;have hll:((U4 s.F s.W cl).length:Int)≤c 1:=by
     have h4:=HC.out.2.1.fl;have h5:=HC.out.2.1.wl
     rcases HC.out.2.2.2.2 with e | e <;> subst e <;> simpa [U4] using by assumption
    have zZ:=Za h2;clear h2
    by_cases h3:c 1≤((U4 s.F s.W cl).length:Int)
    ·have da:Hid (exO c s o cl=(Ge s o.kd 6,s)):=Za (Cn (by rw [HX.out,if_neg (by rw [zZ.out]; decide),if_pos h3]) YU);obtain rfl:f=0:=by omega
     clear h3 hll hf HX HV HC zZ;go_wp2_with fail;refine HF.out.mono ?_;rintro e w2 ⟨rfl,m,rfl⟩;have HD:Hid (Of N w0 (wc.drewN m) c a q Z s L b o):=Za ((HE.out.drop ZJ).drewN m);clear HF HE y1;have HE:=da;clear da d2;generalize wc.drewN m=V at*;have VJ:=Za (Kx HD.out HN.out);go_wp2_with (first | (refine Zn rfl 37 _ rfl b rfl 37 _ (0,0) _ VJ.out ZV rfl QL ?_));refine (Vw (N:=N+2) HD.out HT.out o 6).mono ?_;rintro e w9 ⟨rfl,h9⟩;have H9:Hid (Of N w0 w9 c a q Z s L b o):=Za h9;have VG:=Za (V6 h9 HN.out);clear h9 VJ HD;go_wp2_with (first | (refine Zo rfl _ _ _ rfl (b+1) (Zw (VX o.kd 6 s.bk s.ep)) rfl rfl 42 _ VG.out YS rfl (YH _) ?_));exact ZL (v:= .agg (Zw (VX o.kd 6 s.bk s.ep))) (ZO (fn:=Tryz.f124) rfl _ _ (b+1) 42 _ (0,0) _ rfl (Z6 _ _ _ _ _ _ VG.out) Yb rfl YS) rfl (Zh JW KU)
    ·have hfp:((f:Int)==0)=false:=by simp; omega
     have dd:Hid (mM c s o.ix cl=if R0 c s cl u=none then 10 else 0):=Za (by rw [HX.out,if_neg (by rw [zZ.out]; decide),if_neg h3]);have HL3:Hid (((U4 s.F s.W cl).length:Int)< c 1):=Za Ze;clear hf hll h3 HX;go_wp2_with fail;refine HF.out.mono ?_;rintro e w2 ⟨rfl,m,rfl⟩;have Hh:=Za (HE.out.drewN m);clear HF HE y1 d2;generalize wc.drewN m=W2 at*;have HZ2:Hid (Blk W2 zb 63 (Zd u)):=Za (Hh.out.blkAt (r:=N+2) ZJ Ze xput_same);have cW:Yo u:=HC.out.2.1.fits u (QM HV.out.2.1);have HPr:=Za (oG HC.out.1 HC.out.2.1 HC.out.2.2.1 Hh.out cW cl);rw [MG] at HPr;obtain ⟨d,hd⟩ : ∃d,R0 c s cl u=d:=⟨_,rfl⟩;rw [hd] at HPr dd;have HDd:=Za hd;clear hd cW;go_wp2_with (first | (refine Zn rfl 63 _ rfl zb rfl 63 _ (0,0) _ HZ2.out Zr rfl Ym ?_));refine HPr.out.mono ?_;rintro e w3 ⟨rfl,h3⟩;have MX:=Za h3;clear HPr h3 Hh HZ2 hfp
     cases hdd:d with
     | none=>
      subst hdd;have Zdq:Hid (exO c s o cl=(Ge s o.kd 10,s)):=Za (Cn (by rw [dd.out,if_pos rfl]) YU);have HD:Hid (Of N w0 w3 c a q Z s L b o):=Za (MX.out.drop ZJ);clear MX dd HL3 HDd HV HC zZ;have HE:=Zdq;clear Zdq;have VJ:=Za (Kx HD.out HN.out);go_wp2_with (first | (refine Zn rfl 37 _ rfl b rfl 37 _ (0,0) _ VJ.out ZV rfl QL ?_));refine (Vw (N:=N+2) HD.out HT.out o 10).mono ?_;rintro e w9 ⟨rfl,h9⟩;have H9:Hid (Of N w0 w9 c a q Z s L b o):=Za h9;have VG:=Za (V6 h9 HN.out);clear h9 VJ HD;go_wp2_with (first | (refine Zo rfl _ _ _ rfl (b+1) (Zw (VX o.kd 10 s.bk s.ep)) rfl rfl 42 _ VG.out YS rfl (YH _) ?_));exact ZL (v:= .agg (Zw (VX o.kd 10 s.bk s.ep))) (ZO (fn:=Tryz.f124) rfl _ _ (b+1) 42 _ (0,0) _ rfl (Z6 _ _ _ _ _ _ VG.out) Yb rfl YS) rfl (Zh JW KU)
     | some t=>
      subst hdd;have mI:Hid (exO c s o cl=(Fo s o.kd o.ix t,P4 c s o.ix cl)):=Za (by
       rw [uT (by rw [dd.out,if_neg ZI])];unfold yy;rw [HV.out.2.2,HDd.out]; rfl)
      have hS:P4 c s o.ix cl= { s with V:=s.V.set n { u with rq:=s.ep,st:=3,dl:=t},F:=pushF (c 1).toNat s.F cl o.ix,W:=pushV (c 1).toNat s.W cl o.ix}:=by
       unfold P4 yy AY;have o8:=RA (v:=u) (e:=s.ep) ji;rw [HV.out.2.2,HDd.out,o8.2,HV.out.1];rfl
      have HS:=Za hS;clear hS dd;have sL:=HT.out;have HAc:Hid (∀wx,Zj Zb 186 #[.agg (Zd u),.int .i64 s.ep] wx fun e w'=>e= .returned (.tuple #[.agg (Zd { u with rq:=s.ep,st:=3}),.int .i64 0])∧Below wx.heap.size wx w'):=Za (fun wx=>by
       have h0:=dj u s.ep wx (HC.out.2.1.fits u (QM HV.out.2.1)).2;have o8:=RA (v:=u) (e:=s.ep) ji;have hac1:(QA [Xw s.ep,Qu 2] u).1=0:=by rw [Rz (HC.out.2.1.ep_in HC.out.2.2.1),if_pos zZ.out]
       unfold ans at h0;rw [o8.2,hac1] at h0;exact h0)
      go_wp2_with fail;go_cut [7] from 55 to 63 (fun s7 wx=>s7= .pointer (some ⟨zb,0,none⟩)∧Hid (Eg (N+2+1) w0 wx c a q (ZD (ZD (ZD Z N (YW b 37 (ZM o))) (N+1) (YW (b+1) 42 (Zw Gg))) (N+2) (YW zb 63 (Zd { u with rq:=s.ep,st:=3}))) s L))
      case first=>
       have dZ:Of N w0 w3.drew c a q Z s L b o:=MX.out.drew.drop ZJ;refine Pu (fun w'=>Of N w0 w' c a q Z s L b o) 7 [1,2,3] (?_) ?_
       ·exact dZ
       simp only [qF,qH];show ZW _ _ _ _ [_,_,_] _;iterate 3 (go_big_quiet_step ((intros; rfl)))
       refine Xx ?_;have Px:=Za MX.out.drew;clear MX;generalize w3.drew=V3 at*;refine UQ (i:=0) (k:=4) Ye ZI ZI ?_ ?_
       ·refine YD rfl rfl (wp_load_row 63 _ rfl zb rfl 63 (Zd u) (0,0) _ (Px.out.blkAt (r:=N+2) ZJ Ze xput_same) Zr rfl Ym ?_);refine ⟨dZ,?_⟩;refine hfO (i:=4) ?_;try simp only [qA]
        refine JZ #[.pointer (some ⟨q.e,20,none⟩)] Ke ((Bd Px.out sL.b0 sL.b1 sL.l sL.q).mono ?_);rintro e w4 ⟨rfl,m4,rfl⟩;have TV:=Za (Px.out.drewN m4);refine ⟨_,rfl,TV.out.drop ZJ,?_⟩;clear Px sL dZ;generalize V3.drewN m4=V4 at*;try simp only [qA]
        refine hfO (i:=5) ?_;try simp only [qA]
        refine JZ #[.agg (Zd u),.int .i64 s.ep] Tryz.call186 ((HAc.out _).mono ?_);rintro e w5 ⟨rfl,hb5⟩;have da:=Za (TV.out.below hb5);have h6:Of N w0 w5 c a q Z s L b o:=da.out.drop ZJ;refine ⟨_,rfl,h6,?_⟩;clear TV hb5 HAc;try simp only [qA]
        refine FX (fun w'=>Of N w0 w' c a q Z s L b o) (m:=4) (f:=1) [6,7,8] (?_) ?_
        ·exact h6
        simp only [qF,qH];show ZW _ _ _ _ [_,_,_] _;iterate 3 (go_big_quiet_step ((intros; rfl)))
        refine Xx ?_;refine hfO (i:=9) ?_;have hB:=da.out.blkAt (r:=N+2) ZJ Ze xput_same;refine YD rfl rfl (wp_store_row _ _ _ rfl zb (Zd { u with rq:=s.ep,st:=3}) rfl rfl 63 _ hB Ym rfl (Yx _) ?_);have h7:=da.out.setr (r:=N+2) ZJ Ze xput_same (cs':=Zd { u with rq:=s.ep,st:=3}) (Blk.setRow hB _) (Kept.setRow (S:=fun i=>i=zb) (ZH _ _) (.inl rfl) _);rw [Xk] at h7;have db:=Za h7;refine ⟨h7.drop ZJ,?_⟩;clear da h6 hB h7;generalize w5.setRow zb (Zd { u with rq:=s.ep,st:=3})=w7 at*;refine ⟨by kernel_rfl,Yr ?_⟩;try simp only [qA]
        go_wp2_with fail;go_meet;exact ⟨rfl,db⟩
       ·refine JZ #[.pointer (some ⟨q.e,20,none⟩)] Ke ((Bd Px.out sL.b0 sL.b1 sL.l sL.q).mono ?_);rintro e w4 ⟨rfl,m4,rfl⟩;have TV:=Za (Px.out.drewN m4);have hD1:Of N w0 (V3.drewN m4) c a q Z s L b o:=TV.out.drop ZJ;refine ⟨_,rfl,hD1,?_⟩;clear Px sL dZ;generalize V3.drewN m4=V4 at*;refine hfO (i:=0) ?_;try simp only [qA]
        refine YD rfl rfl (wp_load_row 63 _ rfl zb rfl 63 (Zd u) (0,0) _ (TV.out.blkAt (r:=N+2) ZJ Ze xput_same) Zr rfl Ym ?_);refine ⟨hD1,?_⟩;try simp only [qA]
        refine hfO (i:=5) ?_;try simp only [qA]
        refine JZ #[.agg (Zd u),.int .i64 s.ep] Tryz.call186 ((HAc.out _).mono ?_);rintro e w5 ⟨rfl,hb5⟩;have da:=Za (TV.out.below hb5);have h6:Of N w0 w5 c a q Z s L b o:=da.out.drop ZJ;refine ⟨_,rfl,h6,?_⟩;clear TV hb5 HAc;try simp only [qA]
        refine FX (fun w'=>Of N w0 w' c a q Z s L b o) (m:=4) (f:=1) [6,7,8] (?_) ?_
        ·exact h6
        simp only [qF,qH];show ZW _ _ _ _ [_,_,_] _;iterate 3 (go_big_quiet_step ((intros; rfl)))
        refine Xx ?_;refine hfO (i:=9) ?_;have hB:=da.out.blkAt (r:=N+2) ZJ Ze xput_same;refine YD rfl rfl (wp_store_row _ _ _ rfl zb (Zd { u with rq:=s.ep,st:=3}) rfl rfl 63 _ hB Ym rfl (Yx _) ?_);have h7:=da.out.setr (r:=N+2) ZJ Ze xput_same (cs':=Zd { u with rq:=s.ep,st:=3}) (Blk.setRow hB _) (Kept.setRow (S:=fun i=>i=zb) (ZH _ _) (.inl rfl) _);rw [Xk] at h7;have db:=Za h7;refine ⟨h7.drop ZJ,?_⟩;clear da h6 hB h7;generalize w5.setRow zb (Zd { u with rq:=s.ep,st:=3})=w7 at*;refine ⟨by kernel_rfl,Yr ?_⟩;try simp only [qA]
        go_wp2_with fail;go_meet;exact ⟨rfl,db⟩
      case rest=>
       obtain ⟨rfl,HE8⟩:=hcut;have hB:=HE8.out.blkAt (r:=N+2) ZJ Ze xput_same;have hfz:wc.frozen? ⟨zb,6,none⟩=false:=hB.frozen 6;have hc6:wc.cell? ⟨zb,6,none⟩=some (.int .i64 u.dl):=hB.cell 6;have h9:=HE8.out.setc (r:=N+2) ZJ Ze xput_same 6 (.int .i64 t);rw [Xk] at h9;have TW:Hid (Eg (N+2+1) w0 (wc.setCell ⟨zb,6,none⟩ (.int .i64 t)) c a q (ZD (ZD (ZD Z N (YW b 37 (ZM o))) (N+1) (YW (b+1) 42 (Zw Gg))) (N+2) (YW zb 63 (Zd { u with rq:=s.ep,st:=3,dl:=t}))) s L):=Za h9;clear h9 hB HE8;go_wp2_with fail;clear hfz hc6;generalize wc.setCell ⟨zb,6,none⟩ (.int .i64 t)=W9 at*;have HO9:Hid (Of N w0 W9 c a q Z s L b o):=Za (TW.out.drop ZJ);have x21:=Eg.x21 TW.out;have k1:=Of.k1 HO9.out HN.out;have HB9:=Za (TW.out.blkAt (r:=N+2) ZJ Ze xput_same);clear TW;refine wqT 8 ?_;simp only [qT,qD];iterate 7 (go_big_quiet_step ((intros; rfl)))
       refine Jw 63 _ zb 63 (Zd { u with rq:=s.ep,st:=3,dl:=t}) _ rfl rfl rfl (fun w' h=>by obtain ⟨m,rfl⟩:=h; exact HB9.out) Zr rfl Ym ?_;simp only [qB];refine Xx ?_;intro _ JB;obtain ⟨nr,Xh⟩:=JB;subst Xh;clear HB9 x21 k1;have gO:Hid (Zj Zb 187 #[.pointer (some ⟨a.r,0,none⟩),.int .i64 o.ix,.agg (Zd { u with rq:=s.ep,st:=3,dl:=t})] (W9.drewN nr) fun e w'=>e= .returned (.int .i64 0)∧Of N w0 w' c a q Z { s with V:=s.V.set n { u with rq:=s.ep,st:=3,dl:=t}} L b o):=Za (by
        have hx:=Kp HO9.out nr;obtain ⟨X,hX,Uf,hh,hK,_⟩:=Eg.open hx;have cW:=HC.out.2.1.fits u (QM HV.out.2.1);have aP:=HC.out.2.1.total HC.out.1;have hs:=hh.set hX Uf (v':= { u with rq:=s.ep,st:=3,dl:=t}) HV.out.2.1 ⟨cW.1,rfl⟩ (by show Zz s.V - u.bal+u.bal≤_; omega);rw [←HV.out.1] at hs;exact hs.mono fun e w' ⟨he,h1⟩=>⟨he,hK _ _ _ h1 rfl rfl⟩)
       clear HO9;generalize W9.drewN nr=W10 at*;go_wp2_with fail;refine gO.out.mono ?_;rintro e zj ⟨rfl,UP⟩;have tO:=Za UP;clear UP gO;go_wp2_with fail;have x24:=Eg.x24 tO.out;have k1:=Of.k1 tO.out HN.out;refine wqT 8 ?_;simp only [qT,qD];iterate 8 (go_big_quiet_step ((intros; rfl)))
       refine Xx ?_;intro _ JB;obtain ⟨nr,Xh⟩:=JB;subst Xh;clear x24 k1;have Wv:Hid (Zj Zb 128 #[.pointer (some ⟨a.n,0,none⟩),.int .i64 cl,.int .i64 o.ix] (zj.drewN nr) fun e w'=>(∃r,e= .returned (.int .i64 r))∧Of N w0 w' c a q Z (P4 c s o.ix cl) L b o):=Za (by
        have hx:=Kp tO.out nr;obtain ⟨X,hX,Uf,hh,hK,_⟩:=Eg.open hx;refine (hh.lpush hX Uf cl o.ix).mono fun e w' ⟨he,h1⟩=>⟨⟨_,he⟩,?_⟩
        rw [HS.out];exact hK _ _ _ h1 rfl rfl)
       clear tO;generalize zj.drewN nr=W12 at*;go_wp2_with fail;refine Wv.out.mono ?_;rintro e w13 ⟨⟨r13,rfl⟩,kL⟩;have HD:=Za kL;have nw:Hid (Tm c (P4 c s o.ix cl)):=Za ⟨HT.out.b0,HT.out.b1,HT.out.l,HT.out.q⟩;have HE:=mI;clear kL Wv mI HS HV HC zZ HL3 HDd;have VJ:=Za (Kx HD.out HN.out);have kY:=Of.k1 HD.out HN.out;go_wp2_with (first | (refine Zn rfl 37 _ rfl b rfl 37 _ (0,0) _ VJ.out ZV rfl QL ?_));refine (DT (N:=N+2) HD.out nw.out o o.ix t).mono ?_;rintro e w9 ⟨rfl,h9⟩;have H9:Hid (Of N w0 w9 c a q Z (P4 c s o.ix cl) L b o):=Za h9;have VG:=Za (V6 h9 HN.out);clear h9 VJ HD kY;go_wp2_with (first | (refine Zo rfl _ _ _ rfl (b+1) (Zw (Bo o.kd o.ix t s.bk s.ep)) rfl rfl 42 _ VG.out YS rfl (YH _) ?_));exact ZL (v:= .agg (Zw (Bo o.kd o.ix t s.bk s.ep))) (ZO (fn:=Tryz.f124) rfl _ _ (b+1) 42 _ (0,0) _ rfl (Z6 _ _ _ _ _ _ VG.out) Yb rfl YS) rfl (Zh JW KU)
   ·have HE8:Hid (exO c s o cl=(Ge s o.kd 8,s)):=Za (Cn (by rw [HX.out,if_pos h2]) YU);have d2:(u.st != 2)=true:=by simp [h2]
    have HD:Hid (Of N w0 wc c a q Z s L b o):=Za (HE.out.drop ZJ);have HE:=HE8;clear HE8 HX HV HC h2;have VJ:=Za (Kx HD.out HN.out);go_wp2_with (first | (refine Zn rfl 37 _ rfl b rfl 37 _ (0,0) _ VJ.out ZV rfl QL ?_));refine (Vw (N:=N+2) HD.out HT.out o 8).mono ?_;rintro e w9 ⟨rfl,h9⟩;have H9:Hid (Of N w0 w9 c a q Z s L b o):=Za h9;have VG:=Za (V6 h9 HN.out);clear h9 VJ HD;go_wp2_with (first | (refine Zo rfl _ _ _ rfl (b+1) (Zw (VX o.kd 8 s.bk s.ep)) rfl rfl 42 _ VG.out YS rfl (YH _) ?_));exact ZL (v:= .agg (Zw (VX o.kd 8 s.bk s.ep))) (ZO (fn:=Tryz.f124) rfl _ _ (b+1) 42 _ (0,0) _ rfl (Z6 _ _ _ _ _ _ VG.out) Yb rfl YS) rfl (Zh JW KU)
theorem Zea (hc:GE c)(hi:Inv c k s)(hk:k≤1000000)(h:Eg N w0 w c a q Z s L)(o:Oq)(ho:Kk o) :Zj Zb 84 #[.pointer (some ⟨q.e,0,none⟩),.agg (ZM o)] w (tS N w0 c a q Z (exO c s o 1) L):=by
 have hN:=h.low;have hO:=DA h o;have HN:=Za hN;have H:=Za (fun W (hO:Of N w0 W c a q Z s L w.heap.size o)=>oB (N:=N+2) hc hi hk hO o ho (cl:=1) ZI);obtain ⟨r,hr⟩ : ∃r,exO c s o 1=r:=⟨_,rfl⟩;rw [hr] at H ⊢;clear hc hi hk h ho hN hr;go_enter Tryz.func84,Tryz.ntmps84;go_upto_region 1 with (fail);generalize hW:(w.alloc (.cells (ZM o) 37)).alloc (.cells _ 42)=W;have eW:(w.alloc (.cells (ZM o) 37)).alloc (.cells (Zw Gg) 42)=W:=hW;rw [eW] at hO;generalize w.heap.size=b at*;have VJ:=Za (hO.op HN.out);have HL:=Za (H.out W hO);clear hW eW hO H;go_wp2_with (first | (refine Zn rfl 37 _ rfl b rfl 37 _ (0,0) _ VJ.out ZV rfl QL ?_));refine HL.out.mono ?_;rintro e w9 ⟨rfl,h9⟩;have H9:Hid (Of N w0 w9 c a q Z r.2 L b o):=Za h9;have VG:=Za (V6 h9 HN.out);clear h9 HL VJ;go_wp2_with (first | (refine Zo rfl _ _ _ rfl (b+1) (Zw (rcP r.1)) rfl rfl 42 _ VG.out YS rfl (YH _) ?_));exact ZL (v:= .agg (Zw (rcP r.1))) (ZO (fn:=Tryz.f84) rfl _ _ (b+1) 42 _ (0,0) _ rfl (Z6 _ _ _ _ _ _ VG.out) Yb rfl YS) rfl (Zh rfl (H9.out.done HN.out _))
theorem Zax (hc:GE c)(hi:Inv c k s)(hk:k≤1000000)(h:Eg N w0 w c a q Z s L)(o:Oq)(ho:Kk o) :Zj Zb 85 #[.pointer (some ⟨q.e,0,none⟩),.agg (ZM o)] w (tS N w0 c a q Z (exO c s o 0) L):=by
 have hN:=h.low;have hO:=DA h o;have HN:=Za hN;have H:=Za (fun W (hO:Of N w0 W c a q Z s L w.heap.size o)=>oB (N:=N+2) hc hi hk hO o ho (cl:=0) ZI);obtain ⟨r,hr⟩ : ∃r,exO c s o 0=r:=⟨_,rfl⟩;rw [hr] at H ⊢;clear hc hi hk h ho hN hr;go_enter Tryz.func85,Tryz.ntmps85;go_upto_region 1 with (fail);generalize hW:(w.alloc (.cells (ZM o) 37)).alloc (.cells _ 42)=W;have eW:(w.alloc (.cells (ZM o) 37)).alloc (.cells (Zw Gg) 42)=W:=hW;rw [eW] at hO;generalize w.heap.size=b at*;have VJ:=Za (hO.op HN.out);have HL:=Za (H.out W hO);clear hW eW hO H;go_wp2_with (first | (refine Zn rfl 37 _ rfl b rfl 37 _ (0,0) _ VJ.out ZV rfl QL ?_));refine HL.out.mono ?_;rintro e w9 ⟨rfl,h9⟩;have H9:Hid (Of N w0 w9 c a q Z r.2 L b o):=Za h9;have VG:=Za (V6 h9 HN.out);clear h9 HL VJ;go_wp2_with (first | (refine Zo rfl _ _ _ rfl (b+1) (Zw (rcP r.1)) rfl rfl 42 _ VG.out YS rfl (YH _) ?_));exact ZL (v:= .agg (Zw (rcP r.1))) (ZO (fn:=Tryz.f85) rfl _ _ (b+1) 42 _ (0,0) _ rfl (Z6 _ _ _ _ _ _ VG.out) Yb rfl YS) rfl (Zh rfl (H9.out.done HN.out _))
end
end
end Go.Proofs.YtianiiijaopdpaaGreat
