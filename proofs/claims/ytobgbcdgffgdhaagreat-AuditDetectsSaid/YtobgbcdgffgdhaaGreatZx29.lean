/- Part 29 of 34: Go6 Go7 Md Dep Pro Lev. -/
import Derived.Test.YtobgbcdgffgdhaaGreatZx00
import Derived.Test.YtobgbcdgffgdhaaGreatZx28
namespace Go.Proofs.YtobgbcdgffgdhaaGreat
set_option linter.unusedVariables false
set_option linter.unusedSimpArgs false
set_option maxRecDepth 100000
set_option maxHeartbeats 8000000
open _root_.And renaming intro -> Zm
open _root_.Go renaming Calls -> Zv, World -> Zc, wpQuiet -> Yl
open _root_.Go.Proofs.YtobgbcdgffgdhaaGreat.Eg renaming drewN -> Kn
open _root_.Go.Proofs.YtobgbcdgffgdhaaGreat.ZA renaming setCells -> QP
open _root_.List renaming drop_eq_getElem?_toList_append -> Kw, ext_getElem -> KA, getD_eq_getElem?_getD -> Zo, getElem?_eq_getElem -> Zg, getElem?_eq_some_iff -> Zk, getElem?_map -> ZM, length_map -> Yt, replicate -> ZD
open _root_.Nat renaming le_trans -> ZZ
open _root_.Go.Region renaming wanted -> X3
open _root_.Go.Proofs.Tryz renaming prog -> Zb
open Go.Proofs.Tryz
theorem o4 {G:Prop}(h:G:=by rw [List.getElem?_take_of_lt XJ]; exact hp) :G:=h
theorem oZ {G:Prop}(h:G:=by simp only [HE.o]; exact Of.done H9.o HN.o _) :G:=h
theorem oV {G:Prop}(h:G:=by have:=HV.o.2.2; have:=HV.o.2.1; unfold maxLen; omega) :G:=h
theorem dI {G:Prop}(h:G:=by rw [ej (HC.o.2.1.ep_in HC.o.2.2.1),if_pos HH2.o]) :G:=h
theorem Wc {G:Prop}(h:G:=by rw [HM.o]; exact XJ) :G:=h
theorem Wb {G:Prop}(h:G:=by rw [HM.o]; exact Nat.le_refl _) :G:=h
theorem yB {G H:Prop} (k:H) (h:Dq H->G:=by
  intro zk;refine KY _ ⟨q.e,21,none⟩ (.pointer (some ⟨a.r,0,none⟩)) (fun w h=>Eg.x21 h) ?_;exact zk.o) :G:=h ⟨k⟩
theorem Zf7 {G:Prop} (h:G:=by
  refine Jk ?_;refine NL (fun w'=>Of N w0 w' c a q Z s L b o) (m:=1) (f:=0) [13] (?_) ?_
  ·exact h4
  refine JH ?_;refine Hh ?_;refine U4 ?_;refine Yo ?_;refine ⟨by kernel_rfl,NoPanic.normal ?_⟩;refine Jk ?_;go_wp2_with fail;go_meet;exact ⟨_,rfl,rfl,Za h3⟩) :G:=h
theorem Zf9 {G:Prop} (h:G:=by
  have Ix:=Za (Of.op HD.o HN.o);go_wp2_with (first | (refine Kl 49 b Ix.o underlying49 DO ?_));refine (nD (N:=N+2) HD.o HT.o o _).mono ?_;rintro e w9 ⟨rfl,h9⟩;have H9:=Za h9;have CN:=Za (Of.rc h9 HN.o);clear h9 Ix HD;go_wp2_with (first | (refine ZiQ (b+1) CN.o ?_));exact bodyPost_ret (results_cell_row rfl _ _ (b+1) 53 _ (0,0) _ rfl (setRow_heap _ _ _ _ _ _ CN.o) underlying53 rfl Vs) rfl (And.intro (by simp only [HE.o]; rfl) oZ)) :G:=h
theorem zT1 {G:Prop} (h:G:=by
  refine Ti (fun w'=>Of N w0 w' c a q Z s L b o) 7 [0,1,2,3,4,5,6] (?_) ?_
  ·exact Eg.drew HO.o
  refine JH ?_;show wpQuiet _ _ _ _ [_,_,_,_,_,_,_] _;refine Dw ?_;refine yB ?_;refine X7 ?_;refine U4 ?_;refine KY _ ⟨b,1,none⟩ (.int .i64 o.ix) (fun w h=>Of.k1 h HN.o) ?_;refine X7 ?_;refine Yo ?_;have hD:Of N w0 W.drew c a q Z s L b o:=Eg.drew HO.o;clear HO;generalize W.drew=V at*;refine KC (i:=7) (k:=11) ZC ZE ZE ?_ ?_
  ·refine JA #[.pointer (some ⟨a.r,0,none⟩),.int .i64 o.ix] call126 ((HGt.o _ hD).mono ?_);rintro e w2 ⟨rfl,hb⟩;have h2:Of N w0 w2 c a q Z s L b o:=Eg.below hD hb;refine ⟨_,rfl,h2,?_⟩;clear hb;refine Jk ?_;refine NL (fun w'=>Of N w0 w' c a q Z s L b o) (m:=6) (f:=3) [8,9,10] (?_) ?_
   ·exact h2
   refine JH ?_;refine Nh ?_;refine Ec ?_;refine Yo ?_;refine JC (i:=11) ?_;refine Yv rfl rfl (Kv rfl ?_);refine ⟨Eg.below h2 ((Below.refl _ _).alloc (Nat.le_refl _) _),?_⟩;refine Jk ?_;refine JC (i:=12) ?_;refine Yv rfl rfl (wp_store_row _ _ _ rfl w2.heap.size (Ze u) rfl rfl 68 _ (heap_alloc_new w2 _) Ya rfl (Yi _) ?_);rw [oC];have h3:=Eg.box h2 (Ze u) 68;have h4:Of N w0 (w2.alloc (.cells (Ze u) 68)) c a q Z s L b o:=Eg.below h2 ((Below.refl _ _).alloc (Nat.le_refl _) _);refine ⟨h4,?_⟩;generalize w2.alloc (.cells (Ze u) 68)=w4 at*;exact Zf7
  ·refine Yv rfl rfl (Kv rfl ?_);have h1:=Eg.box hD (Ze ZU) 68;have h1':Of N w0 (V.alloc (.cells (Ze ZU) 68)) c a q Z s L b o:=Eg.below hD ((Below.refl _ _).alloc (Nat.le_refl _) _);refine ⟨h1',?_⟩;generalize V.heap.size=zb at*;generalize V.alloc (.cells (Ze ZU) 68)=V1 at*;refine Jk ?_;refine P8 ?_;refine Jk ?_;refine JA #[.pointer (some ⟨a.r,0,none⟩),.int .i64 o.ix] call126 ((HGt.o _ h1').mono ?_);rintro e w2 ⟨rfl,hb⟩;have h2:=h1.below hb;have h2':Of N w0 w2 c a q Z s L b o:=Eg.below h1' hb;refine ⟨_,rfl,h2',?_⟩;clear hb;refine Jk ?_;refine NL (fun w'=>Of N w0 w' c a q Z s L b o) (m:=5) (f:=2) [8,9,10] (?_) ?_
   ·exact h2'
   refine JH ?_;refine Nh ?_;refine Ec ?_;refine Yo ?_;refine JC (i:=12) ?_;have hB:=h2.blkAt (r:=N+2) Yd Zd Zr;refine Yv rfl rfl (wp_store_row _ _ _ rfl zb (Ze u) rfl rfl 68 _ hB Ya rfl (Yi _) ?_);have h3:=h2.setr (r:=N+2) Yd Zd Zr (cs':=Ze u) (Zu.setRow hB _) (ZA.setRow (S:=fun i=>i=zb) (ZA.refl _ _) (.inl rfl) _);rw [XB] at h3;have h4:Of N w0 (w2.setRow zb (Ze u)) c a q Z s L b o:=h3.drop Yd;refine ⟨h4,?_⟩;generalize w2.setRow zb (Ze u)=w4 at*;exact Zf7) :G:=h
theorem Zl5 {G:Prop} (h:G:=by
  refine Jk ?_;refine Ed ?_;refine Jk ?_;refine JA #[.agg (Ze u),.int .i64 s.ep] call174 ((HAc.o _).mono ?_);rintro e w5 ⟨rfl,hb5⟩;have HE6:=Za (aW.o.below hb5);have h6:Of N w0 w5 c a q Z s L b o:=HE6.o.drop Yd;refine ⟨_,rfl,h6,?_⟩;clear aW hb5 HAc;refine Jk ?_;refine NL (fun w'=>Of N w0 w' c a q Z s L b o) (m:=4) (f:=1) [6,7,8] (?_) ?_
  ·exact h6
  refine JH ?_;refine Nh ?_;refine Ec ?_;refine Yo ?_;refine JC (i:=9) ?_;have hB:=HE6.o.blkAt (r:=N+2) Yd Zd Zr;refine Yv rfl rfl (wp_store_row _ _ _ rfl zb (Ze { u with rq:=s.ep,st:=3}) rfl rfl 68 _ hB Ya rfl (Yi _) ?_);have h7:=HE6.o.setr (r:=N+2) Yd Zd Zr (cs':=Ze { u with rq:=s.ep,st:=3}) (Zu.setRow hB _) (ZA.setRow (S:=fun i=>i=zb) (ZA.refl _ _) (.inl rfl) _);rw [XB] at h7;have pG:=Za h7;refine ⟨h7.drop Yd,?_⟩;clear HE6 h6 hB h7;generalize w5.setRow zb (Ze { u with rq:=s.ep,st:=3})=w7 at*;refine ⟨by kernel_rfl,NoPanic.normal ?_⟩;refine Jk ?_;go_wp2_with fail;go_meet;exact ⟨rfl,pG⟩) :G:=h
theorem Zmc {G:Prop} (h:G:=by
  go_wp2_with fail;refine HF.o.mono ?_;rintro e w2 ⟨rfl,m,rfl⟩;have HD:Zj (Of N w0 (wc.drewN m) c a q Z s L b o):=Za ((HE.o.drop Yd).drewN m);clear HF HE y1;have HE:=HE6;clear HE6 d2;generalize wc.drewN m=V at*;exact Zf9) :G:=h
theorem mZ {G:Prop} (h:G:=by
  have Ix:=Za (Of.op HD.o HN.o);have kix:=Of.k1 HD.o HN.o;go_wp2_with (first | (refine Kl 49 b Ix.o underlying49 DO ?_));refine (nB (N:=N+2) HD.o HT2.o o _ _).mono ?_;rintro e w9 ⟨rfl,h9⟩;have H9:=Za h9;have CN:=Za (Of.rc h9 HN.o);clear h9 Ix HD kix;go_wp2_with (first | (refine ZiQ (b+1) CN.o ?_));exact bodyPost_ret (results_cell_row rfl _ _ (b+1) 53 _ (0,0) _ rfl (setRow_heap _ _ _ _ _ _ CN.o) underlying53 rfl Vs) rfl (And.intro (by simp only [HE.o]; rfl) oZ)) :G:=h
theorem P9 {G:Prop} (h:G:=by
  exact Zf9) :G:=h
theorem Zm7 {G:Prop} (h:G:=by
  go_wp2_with fail;refine H.o.mono ?_;rintro e w2 ⟨v,rfl,h2⟩;have H2:=Za h2;clear h2 H;go_wp2_with fail;go_ret;exact ⟨_,rfl,H2.o⟩) :G:=h
theorem ZeV {G:Prop} (h:G:=by
  go_wp2_with fail;go_roundw
  case rel=>exact ⟨j+1,by omega,by go_num,H4,HZ2⟩
  case measure=>simp [intOf]; omega) :G:=h
theorem Zfq {G:Prop} (h:G:=by
  rw [hb] at hu Ag;rw [<-hu,<-Ag];exact hh.get_out Uz (by simpa [F6] using hb)) :G:=h
section
open Go Go.RowKit Go.Deep
def dW (n:Nat)(F:List Nat) :List Bool:=(List.range n).map fun j=>decide (j ∈ F)
theorem Zcq (n:Nat)(F:List Nat) :(dW n F).length=n:=by simp [dW]
theorem Zcr (n:Nat) :dW n []=ZD n false:=by
 apply KA (by simp [dW]);intro i h1 h2;simp [dW]
theorem Zcs {n:Nat}{F:List Nat}{k i:Nat}(hk:F[k]?=some i) :(dW n (F.take k)).set i true=dW n (F.take (k+1)):=by
 apply KA (by simp [dW]);intro j h1 h2;rw [List.getElem_set];simp only [dW,List.getElem_map,List.getElem_range];rw [List.take_add_one,hk]
 by_cases h:i=j
 ·subst h; simp
 ·rw [if_neg h];have: ¬j=i:=fun e=>h e.symm
  simp [this]
theorem wq (V:List ZN) :dW V.length (M8 V 5 V.length)=OS V:=by
 apply KA (by simp [dW,OS]);intro j h1 h2;have hj:j < V.length:=by simpa [dW] using h1
 simp only [dW,OS,List.getElem_map,List.getElem_range];apply decide_eq_decide.2;rw [PE,Zo,Zg hj];simp [hj]
def vB (b:Bool) :Value:= .bool b
section
variable {N:Nat} {w0:FP} {w w' w1:Zc} {c:Nat->Int} {a:Pl} {q:Ql} {Z:Nat->Zc->(Nat->Prop)->Prop} {s s':Sg} {L L':List QZ}
theorem Zg4 (h:Eg N w0 w c a q Z s L){vs p:Int}(hcu:s.cu<=100)(hl:s.V.length<=100) :
  Zv Zb 209 #[.pointer (some ⟨q.e,21,none⟩),.int .i64 vs,.int .i64 p] w fun e w'=> ∃b2 cp,e= .returned (.tuple #[.slice b2 (KU (OS s.V) s.cu (LN (OS s.V) s.cu vs p)).length cp,.int .i64 (LN (OS s.V) s.cu vs p)])/\
   Eg (N+1) w0 w' c a q (ZK Z N (VM NN 1 b2 (KU (OS s.V) s.cu (LN (OS s.V) s.cu vs p)))) { s with cu:=ER s.V.length s.cu (LN (OS s.V) s.cu vs p)} L/\w.heap.size<=w'.heap.size:=by
 have hN:=h.low;have y0:=Xx h.blk 21;obtain ⟨n,hn⟩:=ZR (s.V.length);have Ew:=MV n Zd w;obtain ⟨F,hF⟩:=ZR (M8 s.V 5 n);have SH:F.length<=n:=by
  have:=ZiN s.V 5 (Nat.le_refl n);rw [<-hF]; unfold M8; exact ZZ (List.length_filter_le _ _) ZE
 have hR:dW n F=OS s.V:=by rw [<-hF,<-hn]; exact wq s.V
 have HF:Zj (∀i ∈ F,i < n):=Za fun i hi=>by rw [<-hF] at hi; exact (PE.1 hi).1
 have H0:Zj (Eg (N+1) w0 (w.alloc (.cells (Gz (ZD n false)) 4)) c a q (ZK Z N (Xm w.heap.size 4 ((dW n (F.take 0)).map vB).toArray)) s L):=Za (by
  have:=h.box (Gz (ZD n false)) 4;rw [show ((dW n (F.take 0)).map vB).toArray=Gz (ZD n false) by rw [List.take_zero,Zcr]; rfl];exact this)
 have CK:Zj (w.heap.size<=(w.alloc (.cells (Gz (ZD n false)) 4)).heap.size):=Za ZE;have HWi:=Za (Zed H0.o (st:=5) rfl Zd);rw [hn,hF] at HWi;have HG:Zj (Y6 120 #[.pointer (some ⟨a.r,0,none⟩)] w (.int .i64 (n:Int))):=Za (by
  obtain ⟨X,hX,Uz,hh,_⟩:=h.open;have:=hh.len Uz;rwa [hn] at this)
 obtain ⟨M,hM⟩:=ZR (LN (OS s.V) s.cu vs p);obtain ⟨J,hJ⟩:=ZR (KU (OS s.V) s.cu M);have HN:=Za hN;have HV:=Za (Zm hn (Zm hcu (Zm hl (Zm hR (Zm hM hJ)))));have hn100:n<=100:=Zd;rw [hM,hJ,hn];clear h hn hN hcu hl hR hF hM hJ;go_enter func209,ntmps209;go_wp2_with fail;refine HG.o.mono ?_;rintro e w2 ⟨rfl,rfl⟩;clear HG;go_wp2_with fail;clear Ew;refine HWi.o.mono ?_;rintro e w3 ⟨v,rfl,h3,hle⟩;clear HWi H0;generalize hz:w.heap.size=z at*;have HZZ:=Za hz;clear hz;obtain ⟨ia,cp,rfl⟩:=XK (h3.row (r:=N+1) Yd Zd Zr);have H3:=Za h3;have HL3:Zj (z<=w3.heap.size):=Za (ZZ CK.o hle);obtain ⟨m,hm⟩:=ZR (F.length);have HM:=Za hm;rw [hm] at SH H3 ⊢;clear h3 hle CK hm y0;go_wp2_with fail;go_loopw [20] (fun s20 wr=> ∃(k:Nat),k<=m/\s20= .int .i64 k/\Zj (Eg (N+1+1) w0 wr c a q (ZK (ZK Z (N+1) (YU 3 1 (.slice ia m cp) m (F.map M7))) N (Xm z 4 ((dW n (F.take k)).map vB).toArray)) s L)/\Zj (z<=wr.heap.size)) (fun s20 _=>m -(intOf s20).toNat)
 case atStart=>exact ⟨0,by omega,rfl,Za (H3.o.ext fun k h1 h2=>by
  unfold ZK
  by_cases e1:k=N+1
  ·subst e1; rw [if_pos rfl,if_neg Zd,if_pos rfl]
  ·by_cases e2:k=N
   ·subst e2; rw [if_neg Zd,if_pos rfl,if_pos rfl]
   ·rw [if_neg e1,if_neg e2,if_neg e2,if_neg e1]),HL3⟩
 case round=>
  obtain ⟨k,hk,rfl,HE,HZ⟩:=hrel
  by_cases XJ:k < m
  ·obtain ⟨i,hi⟩ : ∃i,F[k]?=some i:=⟨_,Zg Wc⟩;have C9:i < n:=HF.o i (List.mem_of_getElem? hi);obtain ⟨g,rfl,hc⟩:=cV (HE.o.row (r:=N+1) Yd Zd Uv) (show (F.map M7)[k]?=some (.int .i64 (i:Int)) by rw [ZM,hi]; rfl);have hB:=HE.o.blkAt (r:=N) HN.o Zd Zr;obtain ⟨uu,hc2⟩ : ∃uu,wr.cell? ⟨z,i,none⟩=some uu:=⟨_,(hB.cell i).trans (by rw [List.getElem?_toArray,Zg (by rw [Yt,Zcq]; exact C9)])⟩;have hfz:wr.frozen? ⟨z,i,none⟩=false:=hB.frozen i;have H4:Zj (Eg (N+1+1) w0 (wr.setCell ⟨z,i,none⟩ (.bool true)) c a q (ZK (ZK Z (N+1) (YU 3 1 (.slice (some ⟨g,0,none⟩) m cp) m (F.map M7))) N (Xm z 4 ((dW n (F.take (k+1))).map vB).toArray)) s L):=Za (by
    have h4:=HE.o.setc (r:=N) HN.o Zd Zr i (.bool true);rw [XB,List.setIfInBounds_toArray,show Value.bool true=vB true from rfl,<-List.map_set,Zcs hi] at h4;exact h4)
   have HZ4:Zj (z<=(wr.setCell ⟨z,i,none⟩ (.bool true)).heap.size):=Za (by have:=HZ.o; simpa using this);clear hB HE hi;go_wp2_with fail;exact Zfa
  ·obtain rfl:k=m:=Zd;clear XJ;have XJ: ¬k < k:=Zd;have h5:=HE.o;rw [List.take_of_length_le Wb,HV.o.2.2.2.1] at h5;have h6:=h5.torow (r:=N) (k:=1) (n:=n) HN.o Zd Zr (by rw [Yt,OS,Yt,HV.o.1,Nat.mul_one]) Vx;rw [XB] at h6;have y5:=Xx h6.blk 23;have HS:Zj (Zv Zb 248 #[.pointer (some ⟨a.k,0,none⟩),.slice (some ⟨z,0,none⟩) n n,.int .i64 vs,.int .i64 p] wr fun e w'=> ∃b2 cp,e= .returned (.tuple #[.slice b2 J.length cp,.int .i64 M])/\
     Eg (N+1) w0 w' c a q (ZK Z N (VM NN 1 b2 J)) { s with cu:=ER n s.cu M} L/\wr.heap.size<=w'.heap.size):=Za (by
    obtain ⟨X,hX,Uz,hh,fQ,C8,hZk,_⟩:=h6.open;have dU:=h6.low;have hxr:X N=YU 4 1 (.slice (some ⟨z,0,none⟩) n n) n ((OS s.V).map Value.bool):=(hZk N HN.o Zd).trans Zr;refine (hh.sweep2 hX Uz (r:=N) Yd Zd hxr HV.o.2.1 (by rw [OS,Yt,HV.o.1]; exact hn100) (vs:=vs) (p:=p)).mono ?_;rintro e w' ⟨b2,cp2,rfl,g1,g2⟩;rw [HV.o.2.2.2.2.1,HV.o.2.2.2.2.2] at g1 ⊢;have g3:=C8 _ _ _ _ g1 Td rfl rfl;refine ⟨b2,cp2,rfl,?_,g2⟩;rw [show (OS s.V).length=n by rw [OS,Yt,HV.o.1]] at g3;exact Eg.pick (m:=2) g3 HN.o (fun k h1 h2=>by rw [Zy Zd,Zy Zd,Zy Zd]) Zr)
   clear HE h5 h6;go_wp2_with fail;refine HS.o.mono ?_;rintro e w4 ⟨b2,c2,rfl,g1,g2⟩;have G:=Za (Zm g1 (ZZ HZ.o g2));clear g1 g2 HS;go_wp2_with fail;go_ret2;exact ⟨b2,c2,rfl,G.o.1,by rw [HZZ.o]; exact G.o.2⟩
end
end
section
open Go Go.RowKit Go.Deep
section
variable {N:Nat} {w0:FP} {w w' w1:Zc} {c:Nat->Int} {a:Pl} {q:Ql} {X Z:Nat->Zc->(Nat->Prop)->Prop} {s s':Sg} {L L':List QZ}
theorem qw (h:Eg N w0 w c a q Z s L){mo:Int}(h0:0<=mo)(hl:s.mg.length<=100000){k:Nat}(hk:min mo.toNat s.mg.length=k) :
  Zv Zb 272 #[.pointer (some ⟨q.d,0,none⟩),.int .i64 mo] w fun e w'=> ∃v,e= .returned v/\Eg (N+1) w0 w' c a q (ZK Z N (YU 116 2 v k (JF (s.mg.take k)))) { s with mg:=s.mg.drop k} L/\w.heap.size<=w'.heap.size:=by
 have hN:=h.low;have HG:=Za h.mlen;have Ew:=iF k Zd w;obtain ⟨n,hn⟩:=ZR (s.mg.length);rw [hn] at hl hk HG;have rf:(if(n:Int)< mo then(n:Int) else mo)=(k:Int):=by split <;> omega
 have jv:min mo (n:Int)=(k:Int):=Zd;have HA:Zj ((s.mg.take k).length=k):=Za Fv;have H0:Zj (Eg (N+1) w0 (w.alloc (.cells (JF (ZD k ((0:Int),(0:Int)))).toArray 116)) c a q (ZK Z N (Xm w.heap.size 116 (JF (Kp (s.mg.take k) ((0:Int),(0:Int)) 0)).toArray)) { s with mg:=s.mg.drop 0} L):=Za (by
  have:=h.box (JF (ZD k ((0:Int),(0:Int)))).toArray 116;rw [Oe,HA.o];exact this)
 have CK:Zj (w.heap.size<=(w.alloc (.cells (JF (ZD k ((0:Int),(0:Int)))).toArray 116)).heap.size):=Za ZE;have HN:=Za hN;have HV:=Za (Zm hn (Zm hk hl));have hk5:k<=100000:=Zd;clear h hn hN h0 hl hk;go_enter func272,ntmps272;go_wp2_with fail;refine HG.o.mono ?_;rintro e w2 ⟨rfl,rfl⟩;clear HG;go_wp2_with fail;clear Ew rf jv;generalize hz:w.heap.size=z at*;have HZZ:=Za hz;clear hz;generalize w.alloc (.cells (JF (ZD k ((0:Int),(0:Int)))).toArray 116)=W at*;go_loopw [14] (fun s14 wr=> ∃(j:Nat),j<=k/\s14= .int .i64 j/\Zj (Eg (N+1) w0 wr c a q (ZK Z N (Xm z 116 (JF (Kp (s.mg.take k) ((0:Int),(0:Int)) j)).toArray)) { s with mg:=s.mg.drop j} L)/\Zj (z<=wr.heap.size)) (fun s14 _=>k -(intOf s14).toNat)
 case atStart=>exact ⟨0,by omega,rfl,H0,CK⟩
 case round=>
  obtain ⟨j,hj,rfl,HE,HZ⟩:=hrel
  by_cases XJ:j < k
  ·obtain ⟨p,hp⟩ : ∃p,s.mg[j]?=some p:=⟨_,Zg (by rw [HV.o.1]; have:=HV.o.2.1; omega)⟩;have HP:Zj ((s.mg.take k)[j]?=some p):=Za o4;have HD:Zj (s.mg.drop j=p::s.mg.drop (j+1)):=Za (Kw .. |>.trans (by rw [hp]; rfl));have HG:=Za (HE.o.mpop (p:=p) (rest:=s.mg.drop (j+1)) HD.o);clear hp;go_wp2_with fail;refine HG.o.mono ?_;rintro e w2 ⟨rfl,h2,hle⟩;have hB:=h2.blkAt (r:=N) HN.o Zd Zr;have GN:=h2.mstore (r:=N) HN.o Zd Zr HP.o;rw [XB] at GN;have HST:=Za GN;have HZ2:Zj (z<=(w2.setCells z (j*2) (YJ p).toList).heap.size):=Za (by
    have h3:=(QP (YJ p).toList (j*2) w2 (ZA.refl (fun i=>i=z) w2) (.inl rfl)).size;have:=HZ.o;omega)
   clear h2 hle hB GN HG HE HZ HD HP;go_wp2_with (first | (refine wpList_store_mid rfl 116 _ _ rfl z (j*2) (YJ p) rfl rfl HST.o.1 MD (UM p) ?_));have H4:=Za HST.o.2;clear HST;generalize w2.setCells z (j*2) (YJ p).toList=W4 at*;exact ZeV
  ·obtain rfl:j=k:=Zd;clear XJ;have XJ: ¬j < j:=Zd;have H7:Zj (Eg (N+1) w0 wr c a q (ZK Z N (YU 116 2 (.slice (some ⟨z,0,none⟩) j j) j (JF (s.mg.take j)))) { s with mg:=s.mg.drop j} L):=Za (by
    have h1:=HE.o;have hA:=HA.o;have h3:Kp (s.mg.take j) ((0:Int),(0:Int)) j=s.mg.take j:=by
     have:=RA (A:=s.mg.take j) (z:=((0:Int),(0:Int)));rwa [hA] at this
    rw [h3] at h1;have h2:=h1.torow (r:=N) (k:=2) (n:=j) HN.o Zd Zr (by rw [Lb,hA]) oV;rwa [XB] at h2)
   exact yS
theorem uO (h:Eg N w0 w c a q Z s L){mo:Int}(h0:0<=mo)(hl:s.mg.length<=100000){k:Nat}(hk:min mo.toNat s.mg.length=k) :
  Zv Zb 241 #[.pointer (some ⟨q.e,27,none⟩),.int .i64 mo] w fun e w'=> ∃v,e= .returned v/\Eg (N+1) w0 w' c a q (ZK Z N (YU 116 2 v k (JF (s.mg.take k)))) { s with mg:=s.mg.drop k} L/\w.heap.size<=w'.heap.size:=by
 have y0:=Xx h.blk 28;have H:=Za (qw h h0 hl hk);clear h h0 hl hk;go_enter func241,ntmps241;exact Zm7
theorem qx (h:Eg N w0 w c a q Z s L){mo:Int}(h0:0<=mo)(hl:s.pt.length<=100000){k:Nat}(hk:min mo.toNat s.pt.length=k) :
  Zv Zb 243 #[.pointer (some ⟨q.q,0,none⟩),.int .i64 mo] w fun e w'=> ∃v,e= .returned v/\Eg (N+1) w0 w' c a q (ZK Z N (YU 119 2 v k (Jp (s.pt.take k)))) { s with pt:=s.pt.drop k} L/\w.heap.size<=w'.heap.size:=by
 have hN:=h.low;have HG:=Za h.tlen;have Ew:=iG k Zd w;obtain ⟨n,hn⟩:=ZR (s.pt.length);rw [hn] at hl hk HG;have rf:(if(n:Int)< mo then(n:Int) else mo)=(k:Int):=by split <;> omega
 have jv:min mo (n:Int)=(k:Int):=Zd;have HA:Zj ((s.pt.take k).length=k):=Za Fv;have H0:Zj (Eg (N+1) w0 (w.alloc (.cells (Jp (ZD k NO)).toArray 119)) c a q (ZK Z N (Xm w.heap.size 119 (Jp (Kp (s.pt.take k) NO 0)).toArray)) { s with pt:=s.pt.drop 0} L):=Za (by
  have:=h.box (Jp (ZD k NO)).toArray 119;rw [Oe,HA.o];exact this)
 have CK:Zj (w.heap.size<=(w.alloc (.cells (Jp (ZD k NO)).toArray 119)).heap.size):=Za ZE;have HN:=Za hN;have HV:=Za (Zm hn (Zm hk hl));have hk5:k<=100000:=Zd;clear h hn hN h0 hl hk;go_enter func243,ntmps243;go_wp2_with fail;refine HG.o.mono ?_;rintro e w2 ⟨rfl,rfl⟩;clear HG;go_wp2_with fail;clear Ew rf jv;generalize hz:w.heap.size=z at*;have HZZ:=Za hz;clear hz;generalize w.alloc (.cells (Jp (ZD k NO)).toArray 119)=W at*;go_loopw [14] (fun s14 wr=> ∃(j:Nat),j<=k/\s14= .int .i64 j/\Zj (Eg (N+1) w0 wr c a q (ZK Z N (Xm z 119 (Jp (Kp (s.pt.take k) NO j)).toArray)) { s with pt:=s.pt.drop j} L)/\Zj (z<=wr.heap.size)) (fun s14 _=>k -(intOf s14).toNat)
 case atStart=>exact ⟨0,by omega,rfl,H0,CK⟩
 case round=>
  obtain ⟨j,hj,rfl,HE,HZ⟩:=hrel
  by_cases XJ:j < k
  ·obtain ⟨p,hp⟩ : ∃p,s.pt[j]?=some p:=⟨_,Zg (by rw [HV.o.1]; have:=HV.o.2.1; omega)⟩;have HP:Zj ((s.pt.take k)[j]?=some p):=Za o4;have HD:Zj (s.pt.drop j=p::s.pt.drop (j+1)):=Za (Kw .. |>.trans (by rw [hp]; rfl));have HG:=Za (HE.o.tpop (p:=p) (rest:=s.pt.drop (j+1)) HD.o);clear hp;go_wp2_with fail;refine HG.o.mono ?_;rintro e w2 ⟨rfl,h2,hle⟩;have hB:=h2.blkAt (r:=N) HN.o Zd Zr;have GN:=h2.tstore (r:=N) HN.o Zd Zr HP.o;rw [XB] at GN;have HST:=Za GN;have HZ2:Zj (z<=(w2.setCells z (j*2) (ZF p).toList).heap.size):=Za (by
    have h3:=(QP (ZF p).toList (j*2) w2 (ZA.refl (fun i=>i=z) w2) (.inl rfl)).size;have:=HZ.o;omega)
   clear h2 hle hB GN HG HE HZ HD HP;go_wp2_with (first | (refine wpList_store_mid rfl 119 _ _ rfl z (j*2) (ZF p) rfl rfl HST.o.1 Jq (Ky p) ?_));have H4:=Za HST.o.2;clear HST;generalize w2.setCells z (j*2) (ZF p).toList=W4 at*;exact ZeV
  ·obtain rfl:j=k:=Zd;clear XJ;have XJ: ¬j < j:=Zd;have H7:Zj (Eg (N+1) w0 wr c a q (ZK Z N (YU 119 2 (.slice (some ⟨z,0,none⟩) j j) j (Jp (s.pt.take j)))) { s with pt:=s.pt.drop j} L):=Za (by
    have h1:=HE.o;have hA:=HA.o;have h3:Kp (s.pt.take j) NO j=s.pt.take j:=by
     have:=RA (A:=s.pt.take j) (z:=NO);rwa [hA] at this
    rw [h3] at h1;have h2:=h1.torow (r:=N) (k:=2) (n:=j) HN.o Zd Zr (by rw [Lg,hA]) oV;rwa [XB] at h2)
   exact yS
theorem uP (h:Eg N w0 w c a q Z s L){mo:Int}(h0:0<=mo)(hl:s.pt.length<=100000){k:Nat}(hk:min mo.toNat s.pt.length=k) :
  Zv Zb 206 #[.pointer (some ⟨q.e,27,none⟩),.int .i64 mo] w fun e w'=> ∃v,e= .returned v/\Eg (N+1) w0 w' c a q (ZK Z N (YU 119 2 v k (Jp (s.pt.take k)))) { s with pt:=s.pt.drop k} L/\w.heap.size<=w'.heap.size:=by
 have y0:=Xx h.blk 29;have H:=Za (qx h h0 hl hk);clear h h0 hl hk;go_enter func206,ntmps206;exact Zm7
end
end
section
open Go Go.RowKit Go.Deep
section
variable {P:Program} {ops:Array Oper} {rest:List Oper} {op:Oper} {a:Act}
theorem Ot {C:Zc->Prop}{Qa:Act->Prop}(ty:TypeId)(x:Operand)(b o:Nat)(cs:List Value)(d:TypeDesc)(hw:X3 op (yielded ops a.tmps)=true)(ho:op.op= .load ty x)(hx:a.eval x= .pointer (some ⟨b,o,none⟩))
  (hC: ∀w,C w->w.rangeAt b o cs) (hu:P.underlying ty=some d) (hd:d.isRow=true) (hi:(P.info? ty).map (·.size)=some cs.length)
  (h:Yl P ops C Qa rest (a.put op.dst (.agg cs.toArray))) :Yl P ops C Qa (op::rest) a:=by
 unfold Yl;rw [if_pos hw];refine ⟨_,fun w hc=>?_,h⟩;unfold Oper.quietAt execOp;simp only [ho,hx,Instr.loadAt,Instr.sureAddr,Sem.run_bind,Sem.run_pure,Result.andThen_ok,run_loadVar_mid w b o ty cs d (hC w hc) hu hd hi];exact Gw
theorem SV {C:Zc->Prop}{Qa:Act->Prop}(ty:TypeId)(x:Operand)(b o:Nat)(cs:Array Value)(d:TypeDesc)(hw:X3 op (yielded ops a.tmps)=true)(ho:op.op= .load ty x)(hx:a.eval x= .pointer (some ⟨b,o,none⟩))
  (hC: ∀w,C w->w.rangeAt b o cs.toList) (hu:P.underlying ty=some d) (hd:d.isRow=true) (hi:(P.info? ty).map (·.size)=some cs.size)
  (h:Yl P ops C Qa rest (a.put op.dst (.agg cs))) :Yl P ops C Qa (op::rest) a:=
 Ot ty x b o cs.toList d hw ho hx hC hu hd hi h
end
theorem jZ (c:Nat->Int)(a:Pl)(q:Ql) :UN c a q=Zi c++ #[.pointer (some ⟨a.c,0,none⟩),.pointer (some ⟨a.r,0,none⟩),.pointer (some ⟨a.l,0,none⟩),.pointer (some ⟨a.k,0,none⟩),.pointer (some ⟨a.n,0,none⟩),.pointer (some ⟨a.m,0,none⟩),.pointer (some ⟨a.u,0,none⟩),.pointer (some ⟨a.p,0,none⟩),.pointer (some ⟨q.d,0,none⟩),.pointer (some ⟨q.q,0,none⟩)]:=rfl
theorem TN {w:Zc}{c:Nat->Int}{a:Pl}{q:Ql}(h:Zu w q.e 102 (UN c a q)) :w.rangeAt q.e 0 (Zi c).toList:=fun j v hj=>by
 have hl:j < (Zi c).size:=by have:=(Zk.1 hj).1; simpa using this
 rw [h.cell,Nat.zero_add,jZ,Array.getElem?_append_left hl,<-Array.getElem?_toList];exact hj
section
variable {N:Nat} {w0:FP} {w:Zc} {c:Nat->Int} {a:Pl} {q:Ql} {Z:Nat->Zc->(Nat->Prop)->Prop} {s:Sg} {L:List QZ} {b:Nat} {o:Oq}
theorem Eg.x0 (h:Eg N w0 w c a q Z s L) :w.cell? ⟨q.e,0,none⟩=some (.int .i64 (c 0)):=h.blk.cell 0
theorem Eg.x2 (h:Eg N w0 w c a q Z s L) :w.cell? ⟨q.e,2,none⟩=some (.int .u64 (c 2)):=h.blk.cell 2
theorem Eg.x3 (h:Eg N w0 w c a q Z s L) :w.cell? ⟨q.e,3,none⟩=some (.int .u64 (c 3)):=h.blk.cell 3
theorem Eg.x16 (h:Eg N w0 w c a q Z s L) :w.cell? ⟨q.e,16,none⟩=some (.int .i64 (c 16)):=h.blk.cell 16
theorem Eg.x17 (h:Eg N w0 w c a q Z s L) :w.cell? ⟨q.e,17,none⟩=some (.int .i64 (c 17)):=h.blk.cell 17
theorem Eg.x21 (h:Eg N w0 w c a q Z s L) :w.cell? ⟨q.e,21,none⟩=some (.pointer (some ⟨a.r,0,none⟩)):=h.blk.cell 21
theorem Eg.x22 (h:Eg N w0 w c a q Z s L) :w.cell? ⟨q.e,22,none⟩=some (.pointer (some ⟨a.l,0,none⟩)):=h.blk.cell 22
theorem Eg.x24 (h:Eg N w0 w c a q Z s L) :w.cell? ⟨q.e,24,none⟩=some (.pointer (some ⟨a.n,0,none⟩)):=h.blk.cell 24
theorem Eg.x27 (h:Eg N w0 w c a q Z s L) :w.cell? ⟨q.e,27,none⟩=some (.pointer (some ⟨a.p,0,none⟩)):=h.blk.cell 27
theorem Of.k0 (h:Of N w0 w c a q Z s L b o)(hN:11<=N) :w.cell? ⟨b,0,none⟩=some (.int .i64 o.kd):=(h.op hN).cell 0
theorem Of.k1 (h:Of N w0 w c a q Z s L b o)(hN:11<=N) :w.cell? ⟨b,1,none⟩=some (.int .i64 o.ix):=(h.op hN).cell 1
theorem Of.k2 (h:Of N w0 w c a q Z s L b o)(hN:11<=N) :w.cell? ⟨b,2,none⟩=some (.int .i64 o.tg):=(h.op hN).cell 2
theorem Of.k3 (h:Of N w0 w c a q Z s L b o)(hN:11<=N) :w.cell? ⟨b,3,none⟩=some (.int .u64 o.am):=(h.op hN).cell 3
end
def rcP (r:Rp) :Rc:=⟨r.kd,r.cd,r.ix,r.bl,r.ep,r.dl,none,0,0,none,0,0,r.vs⟩
def OpP (N:Nat)(w0:FP)(c:Nat->Int)(a:Pl)(q:Ql)(Z:Nat->Zc->(Nat->Prop)->Prop)(x:Rp × Sg)(L:List QZ)(e:Ending)(w:Zc) :Prop:=e= .returned (.agg (Z9 (rcP x.1)))/\Eg N w0 w c a q Z x.2 L
end
section
open Go Go.RowKit Go.Deep
theorem Pg {c:Nat->Int}{s:Sg}{o:Oq}{k:Int}(h:Tu c s o.am=k)(hk:k≠0) :LY c s o=(BN s o.kd k,s):=by unfold LY; rw [h,if_neg hk]
theorem uE {c:Nat->Int}{s:Sg}{o:Oq}(h:Tu c s o.am=0) :LY c s o=(LW s o.kd s.V.length (-1),L1 s o.am):=by unfold LY; rw [if_pos h]
theorem Inv.fits06 {c:Nat->Int}{k:Nat}{s:Sg}(hc:GE c)(h:Inv c k s) :JJ s.D s.P s.B (c 4):=by
 have h0:=h.total hc;have h1:=h.sum;have h2:=h.p0;have h3:=h.b0;have h4:=h.d1;have h5:=h.cap;have h6:=hc.a4;have h7:=hc.a2;have h8:=hc.a23;have h9:=hc.a3;unfold JJ;omega
section
variable {N:Nat} {w0:FP} {w w' w1:Zc} {c:Nat->Int} {a:Pl} {q:Ql} {Z:Nat->Zc->(Nat->Prop)->Prop} {s s':Sg} {L L':List QZ} {k:Nat}
theorem uL (hc:GE c)(hi:Inv c k s)(hk:k<=1000000)(h:Eg N w0 w c a q Z s L)(o:Oq)(ho:UG o) :Zv Zb 84 #[.pointer (some ⟨q.e,0,none⟩),.agg (Z6 o)] w (OpP N w0 c a q Z (LY c s o) L):=by
 have hN:=h.low;have hO:=EA h o;have HT:=Za (hi.tm hc hk);have HN:=Za hN;have HC:=Za hc;have HI:=Za hi;have HF:=Za ho;clear hc hi ho hN h;go_enter func84,ntmps84;go_upto_region 1 with (fail);generalize hW:(w.alloc (.cells (Z6 o) 49)).alloc (.cells _ 53)=W;have eW:(w.alloc (.cells (Z6 o) 49)).alloc (.cells (Z9 Bi) 53)=W:=hW;rw [eW] at hO;generalize w.heap.size=b at*;have k3:=Of.k3 hO HN.o;have x2:=Eg.x2 hO;have x3:=Eg.x3 hO;have HO:=Za hO;clear hW eW hO
 by_cases h1:o.am < c 2
 ·have HE:Zj (LY c s o=(BN s o.kd 3,s)):=Za (Pg (by unfold Tu; exact if_pos (.inl h1)) Y5);clear HI HF HC;go_quiet (fail);have HD:Zj (Of N w0 (W.drewN nq) c a q Z s L b o):=Za (Kn HO.o nq);clear HO k3 x2 x3;generalize W.drewN nq=V at*;exact P9
 by_cases h2:c 3 < o.am
 ·have HE:Zj (LY c s o=(BN s o.kd 3,s)):=Za (Pg (by unfold Tu; exact if_pos (.inr h2)) Y5);clear HI HF HC;have d1:decide (o.am < c 2)=false:=decide_eq_false h1;have d2:decide (c 3 < o.am)=true:=decide_eq_true h2;clear h1 h2;go_quiet (fail);have CL:Zj (Of N w0 (W.drewN nq) c a q Z s L b o):=Za (Kn HO.o nq);generalize W.drewN nq=W1 at*;have k3:=Of.k3 CL.o HN.o;have x2:=Eg.x2 CL.o;have x3:=Eg.x3 CL.o;go_wp2_with fail;go_quiet (fail);have HD:Zj (Of N w0 (W1.drewN nq) c a q Z s L b o):=Za (Kn CL.o nq);clear HO CL k3 x2 x3;generalize W1.drewN nq=V at*;exact P9
 have d1:decide (o.am < c 2)=false:=decide_eq_false h1;have d2:decide (c 3 < o.am)=false:=decide_eq_false h2;have L9: ¬(o.am < c 2\/c 3 < o.am):=by rintro (h | h)<;> omega
 clear h1 h2;go_quiet (fail);have CL:Zj (Of N w0 (W.drewN nq) c a q Z s L b o):=Za (Kn HO.o nq);clear HO k3 x2 x3;generalize W.drewN nq=W1 at*;have k3:=Of.k3 CL.o HN.o;have x2:=Eg.x2 CL.o;have x3:=Eg.x3 CL.o;go_wp2_with fail;go_quiet (fail);have Rh:Zj (Of N w0 (W1.drewN nq) c a q Z s L b o):=Za (Kn CL.o nq);clear CL k3 x2 x3 d1 d2;generalize W1.drewN nq=W2 at*;go_wp2_with fail;have x21:=Eg.x21 Rh.o;have x0:=Eg.x0 Rh.o;have HLn:Zj (∀m,Zv Zb 120 #[.pointer (some ⟨a.r,0,none⟩)] (W2.drewN m) fun e w'=>e= .returned (.int .i64 s.V.length)/\W2.drewN m=w'):=Za (fun m=>by
  obtain ⟨X,hX,Uz,hh,_⟩:=Eg.open (Kn Rh.o m);exact hh.len Uz)
 obtain ⟨n,hn⟩:=ZR (s.V.length);rw [hn] at HLn;have HNn:=Za hn
 by_cases h3:(n:Int)=c 0
 ·have HE:Zj (LY c s o=(BN s o.kd 5,s)):=Za (Pg (by unfold Tu; rw [if_neg L9,if_pos (by rw [hn]; omega)]) Y5);have d3:((n:Int)==c 0)=true:=by simp [h3]
  clear h3 L9 HI HF HC hn;go_quiet ((go_at_call 120; exact Dj (HLn.o _)));have HD:Zj (Of N w0 (W2.drewN nq) c a q Z s L b o):=Za (Kn Rh.o nq);clear Rh x21 x0 HLn HNn;generalize W2.drewN nq=V at*;exact P9
 have d3:((n:Int)==c 0)=false:=by simp [h3]
 have h3': ¬c 0<=(s.V.length:Int):=by have:=HI.o.len; rw [hn] at this ⊢; omega
 clear h3 hn;go_quiet ((go_at_call 120; exact Dj (HLn.o _)));have CM:Zj (Of N w0 (W2.drewN nq) c a q Z s L b o):=Za (Kn Rh.o nq);clear Rh x21 x0 HLn d3;generalize W2.drewN nq=W3 at*;have x27:=Eg.x27 CM.o;have HFr:Zj (Xc 121 #[.pointer (some ⟨a.p,0,none⟩)] W3 (.int .i64 (((c 1).toNat - s.pd.length:Nat) :Int))):=Za (by
  obtain ⟨X,hX,Uz,hh,_⟩:=Eg.open CM.o;exact hh.pfree Uz)
 obtain ⟨f,hf⟩ : ∃f:Nat,(c 1).toNat - s.pd.length=f:=⟨_,rfl⟩;rw [hf] at HFr
 by_cases h4:c 1<=(s.pd.length:Int)
 ·have HE:Zj (LY c s o=(BN s o.kd 6,s)):=Za (Pg (by unfold Tu; rw [if_neg L9,if_neg h3',if_pos h4]) Y5);obtain rfl:f=0:=Zd;clear h4 h3' L9 HI HF HC hf;go_wp2_with fail;refine HFr.o.mono ?_;rintro e w' ⟨rfl,m,rfl⟩;have HD:Zj (Of N w0 (W3.drewN m) c a q Z s L b o):=Za (Kn CM.o m);clear CM x27 HFr HNn;generalize W3.drewN m=V at*;exact P9
 have hfp:((f:Int)==0)=false:=Xo;clear hf;go_wp2_with fail;refine HFr.o.mono ?_;rintro e w' ⟨rfl,m,rfl⟩;have To:Zj (Of N w0 (W3.drewN m) c a q Z s L b o):=Za (Kn CM.o m);clear CM x27 HFr;generalize W3.drewN m=W4 at*;have h4': ¬c 1<=(s.pd.length:Int):=Zd;have fa:=HF.o.2.2.2;have a0:0<=o.am:=(bounds_u64 fa).1;have a1:o.am<=18446744073709551615:=(bounds_u64 fa).2;have hF6:JJ s.D s.P s.B (c 4):=Inv.fits06 HC.o HI.o;go_wp2_with fail;have hOD:Of N w0 W4.drew c a q Z s L b o:=Eg.drew To.o
 by_cases h5:c 4 -(s.D - s.P - s.B)< o.am\/(o.am<=c 4 -(s.D - s.P - s.B)/\18446744073709551615 < s.D+o.am)
 ·obtain ⟨kk,vG⟩ : ∃kk:Int,(if c 4 -(s.D - s.P - s.B)< o.am then 4 else 10)=kk:=⟨_,rfl⟩;have HE:Zj (LY c s o=(BN s o.kd kk,s)):=Za (Pg (by
   unfold Tu;rw [if_neg L9,if_neg Zd,if_neg Zd,<-vG]
   rcases h5 with h5 | ⟨h5,h6⟩
   ·rw [if_pos h5,if_pos h5]
   ·rw [if_neg Zd,if_pos h6,if_neg Zd]) (by rw [<-vG]; split <;> decide))
  have dk:(kk != 0)=true:=by rw [<-vG]; split <;> rfl
  have HA:=Za (ZbF (N:=N+2) hOD hF6 a0 a1 h5);rw [vG] at HA;have HO5:=Za hOD;clear L9 h3' h4' h4 h5 fa a0 a1 hF6 vG HI HF HC hfp HNn hOD;refine L5 (fun w'=>Zu w' b 49 (Z6 o)) 10 5 [0,1,2,3,4] (?_) ?_
  ·exact HO5.o.op HN.o
  refine JH ?_;refine OJ ?_;refine Dw ?_;refine KY _ ⟨b,3,none⟩ (.int .u64 o.am) (fun w h=>h.cell 3) ?_;refine X7 ?_;refine Yo ?_;clear To;generalize W4.drew=V at*;refine Ed ?_;refine Jk ?_;refine JA #[.pointer (some ⟨q.e,21,none⟩),.int .u64 o.am] call122 ((HA.o).mono ?_);rintro e w2 ⟨rfl,hb⟩;have HD:Zj (Of N w0 w2 c a q Z s L b o):=Za (Eg.below HO5.o hb);refine ⟨_,rfl,HD.o.op HN.o,?_⟩;clear hb HA HO5;refine Jk ?_;refine TS (fun w'=>Zu w' b 49 (Z6 o)) (m:=4) (f:=0) [6,7,8,9] (?_) ?_
  ·exact HD.o.op HN.o
  refine JH ?_;refine Hg ?_;refine Dw ?_;refine Yo ?_;refine GD ?_;refine ⟨by kernel_rfl,?_⟩;refine LA ?_;go_wp2_with fail;refine U1 ?_;exact P9
 ·have HE:Zj (LY c s o=(LW s o.kd s.V.length (-1),L1 s o.am)):=Za (uE (by
   unfold Tu;rw [if_neg L9,if_neg Zd,if_neg Zd,if_neg Zd,if_neg Zd]))
  have HA:=Za (ZoQ (N:=N+2) hOD hF6 a0 a1 Zd Zd Zd (by have:=HI.o.total HC.o; have:=HI.o.sum; have:=HI.o.p0; have:=HI.o.b0; omega));have HT2:Zj (Tm c (L1 s o.am)):=Za ⟨HT.o.b0,HT.o.b1,HT.o.l,HT.o.q⟩;have HO5:=Za hOD;have HPl:Zj ((s.pd.length:Int)< c 1):=Za Zd;rw [HNn.o] at HA;clear L9 h3' h4' h4 h5 fa a0 a1 hF6 HI HF HC hfp hOD;refine L5 (fun w'=>Zu w' b 49 (Z6 o)) 10 5 [0,1,2,3,4] (?_) ?_
  ·exact HO5.o.op HN.o
  refine JH ?_;refine OJ ?_;refine Dw ?_;refine KY _ ⟨b,3,none⟩ (.int .u64 o.am) (fun w h=>h.cell 3) ?_;refine X7 ?_;refine Yo ?_;clear To;generalize W4.drew=V at*;refine Ed ?_;refine Jk ?_;refine JA #[.pointer (some ⟨q.e,21,none⟩),.int .u64 o.am] call122 ((HA.o).mono ?_);rintro e w2 ⟨rfl,hb⟩;have HD:Zj (Of N w0 w2 c a q Z { s with V:=s.V++[Lc o.am],D:=s.D+o.am} L b o):=Za hb;refine ⟨_,rfl,HD.o.op HN.o,?_⟩;clear hb HA HO5;refine Jk ?_;refine TS (fun w'=>Zu w' b 49 (Z6 o)) (m:=4) (f:=0) [6,7,8,9] (?_) ?_
  ·exact HD.o.op HN.o
  refine JH ?_;refine Hg ?_;refine Dw ?_;refine Yo ?_;refine GD ?_;refine ⟨by kernel_rfl,?_⟩;refine LA ?_;go_wp2_with fail;refine U1 ?_;have x27:=Eg.x27 HD.o;have Iy:Zj (Zv Zb 123 #[.pointer (some ⟨a.p,0,none⟩),.slice (some ⟨w2.heap.size,0,none⟩) 1 1] (w2.alloc (.cells #[.int .i64 (n:Int)] 3)) fun e w'=>e= .returned (.int .i64 1)/\Of N w0 w' c a q Z (L1 s o.am) L b o):=Za (by
   obtain ⟨X,hX,Uz,hh,hK,_⟩:=Eg.open HD.o;refine (hh.ppush hX Uz (x:=(n:Int)) HPl.o).mono fun e w' ⟨he,h1,_⟩=>⟨he,?_⟩
   have h2:=hK _ _ _ h1 rfl rfl;unfold L1;rw [HNn.o];exact h2)
  clear HD;go_wp2_with fail;refine Iy.o.mono ?_;rintro e w5 ⟨rfl,h5⟩;have HD:=Za h5;clear h5 Iy x27;rw [HNn.o] at HE;exact mZ
end
end
section
open Go Go.RowKit Go.Deep
theorem yu {V:List ZN}{n:Nat}{v:ZN}(h:V[n]?=some v) :wV V (n:Int)=v.bal:=by
 have hl:=(Zk.1 h).1;unfold wV KK;rw [if_pos ⟨by omega,by unfold Qj; rw [Yt]; omega⟩,Int.toNat_natCast,Zo];unfold Qj;rw [ZM,h]; rfl
theorem aD: ∀(I:List Int) (V:List ZN),(∀v ∈ V,Yp v)->I.Nodup->(∀i ∈ I,∃n:Nat,i=(n:Int)/\n < V.length)->XR (I.map (wV V)) I.length<=Zw V
 | [],V,hf,_,_=>JP hf
 | i::I,V,hf,hn,hI=>by
  obtain ⟨h1,h2⟩:=List.nodup_cons.1 hn;obtain ⟨n,rfl,hnl⟩:=hI i ZE;have hv:V[n]?=some (V[n]):=Zg hnl;generalize V[n]=v at hv;have hfv:=hf v (Xt hv);have hf': ∀x ∈ V.set n { v with bal:=0},Yp x:=Kt hf ⟨rfl,hfv.2⟩;have ih:=aD I (V.set n { v with bal:=0}) hf' h2 (fun j hj=>by
   obtain ⟨m,e,hm⟩:=hI j Ng;exact ⟨m,e,by rw [List.length_set]; exact hm⟩)
  have hm:I.map (wV (V.set n { v with bal:=0}))=I.map (wV V):=List.map_congr_left fun j hj=>by
   obtain ⟨m,rfl,hm⟩:=hI j Ng;have Kj:n≠m:=fun e=>h1 (by rw [e]; exact hj)
   have hu:V[m]?=some (V[m]):=Zg hm;rw [yu hu,yu (v:=V[m]) (by rw [List.getElem?_set_ne Kj]; exact hu)]
  rw [hm,J4 hv] at ih;rw [List.map_cons,List.length_cons,Dn,yu hv];simp only at ih;omega
theorem Rn (F W:List Int)(cl:Int) :(KH F W cl).Sublist (F++W):=by
 unfold KH
 split
 ·exact List.sublist_append_left _ _
 ·split
  ·exact List.Sublist.refl _
  ·exact List.nil_sublist _
section
variable {N:Nat} {w0:FP} {w w' w1:Zc} {c:Nat->Int} {a:Pl} {q:Ql} {Z:Nat->Zc->(Nat->Prop)->Prop} {s s':Sg} {L L':List QZ} {k:Nat}
theorem Inv.ahead (hc:GE c)(h:Inv c k s)(cl:Int) :KS ((KH s.F s.W cl).map (wV s.V)) (KH s.F s.W cl).length=true/\DU (BB ((KH s.F s.W cl).map (wV s.V)) (KH s.F s.W cl).length):=by
 have h1:=aD (KH s.F s.W cl) s.V h.fits (h.lnn.sublist (Rn _ _ _)) (fun i hi=>by
  obtain ⟨m,u,e,hu,_⟩:=h.lnx i ((Rn _ _ _).subset hi);exact ⟨m,e,(Zk.1 hu).1⟩)
 have h2:=h.total hc;have h3:0<=XR ((KH s.F s.W cl).map (wV s.V)) (KH s.F s.W cl).length:=BQ (fun i=>by
  rw [Zo,ZM]
  cases (KH s.F s.W cl)[i]? with
  | none=>exact Int.le_refl _
  | some x=>exact aI h.fits x) _
 have h4:XR ((KH s.F s.W cl).map (wV s.V)) (KH s.F s.W cl).length<=18446744073709551615:=Zd;obtain ⟨h5,h6⟩:=Nj h4;exact ⟨h5,by rw [h6]; exact ⟨h3,h4⟩⟩
theorem Ol (x:Option Int) :KQ x= .tuple #[.int .i64 (x.getD 0),.bool x.isSome]:=by cases x <;> rfl
theorem ZgV (hc:GE c)(h:Inv c k s)(cl:Int)(v:ZN) :lG (BB ((KH s.F s.W cl).map (wV s.V)) (KH s.F s.W cl).length) v.bal c s.ep=WM c s cl v:=by
 rw [ZcK hc.g];unfold WM;rw [if_pos (h.ahead hc cl).1]
theorem uS (hc:GE c)(hi:Inv c k s)(hk:k<=1000000)(h:Eg N w0 w c a q Z s L){v:ZN}(hv:Yp v)(cl:Int) :
  Zv Zb 173 #[.pointer (some ⟨q.e,0,none⟩),.agg (Ze v),.int .i64 cl] w fun e w'=>e= .returned (KQ (WM c s cl v))/\Eg N w0 w' c a q Z s L:=by
 have hN:=h.low;have h1:=h.box (Ze v) 68;have hB0:Zj (Zu (w.alloc (.cells (Ze v) 68)) w.heap.size 68 (Ze v)):=Za (Zu.new _ _ _);obtain ⟨t0,t1,t2,t3⟩:=hi.tm hc hk;have hln:s.V.length<=4096:=by have:=hi.len; have:=hc.g.cap1; omega
 have H1:=Za h1;have HN:=Za hN;obtain ⟨A,hA⟩:=ZR (KH s.F s.W cl);obtain ⟨x,hx⟩:=ZR (BB (A.map (wV s.V)) A.length);have ZkX:DU x:=by have:=(hi.ahead hc cl).2; rw [hA,hx] at this; exact this
 have Zhk:=ZgV hc hi cl v;rw [hA,hx] at Zhk;have HDue:=Za Zhk;have HP:=Za (fun w=>rS hc.g ZkX (show DU v.bal from bounds_u64 hv.1) s.ep w);have hAl:A.length<=100000:=by
  have h3:=(Rn s.F s.W cl).length_le;rw [hA,List.length_append] at h3;have:=hi.fl; have:=hi.wl; have:=hc.q1; omega
 have HFi:=Za hi.fits;have HX:=Za (Zm hA (Zm hx (Zm hAl hln)));have HT:=Za (Zm t0 (Zm t1 (Zm t2 t3)));clear hc hi hk h h1 hv hN hA hx ZkX Zhk hAl hln t0 t1 t2 t3;go_enter func173,ntmps173;go_upto_region 1 with (fail);generalize w.alloc (.cells (Ze v) 68)=W at*;generalize hz:w.heap.size=b at*;clear hz;have HBl:=Za (Zd8 (Eg.drew H1.o) (by have:=HX.o.2.2.2; omega));refine L5 (fun w'=>Zu w' q.e 102 (UN c a q)) 16 7 [0,1,2,4,5,6,7,8,9] (?_) ?_
 ·exact (Eg.drew H1.o).blk
 refine JH ?_;refine td ?_;refine dN ?_;refine KY _ ⟨q.e,24,none⟩ (.pointer (some ⟨a.n,0,none⟩)) (fun w h=>h.cell 24) ?_;refine X7 ?_;refine U4 ?_;refine Yo ?_;generalize W.drew=V at*;refine JC (i:=3) ?_;refine Jk ?_;refine JA #[.pointer (some ⟨q.e,21,none⟩)] call201 ((HBl.o).mono ?_);rintro e w2 ⟨vb,rfl,h2,hle⟩;have H2:=Za h2;refine ⟨_,rfl,h2.blk,?_⟩;clear h2 HBl hle;have HAh:Zj (Zv Zb 216 #[.pointer (some ⟨a.n,0,none⟩),.int .i64 cl] w2 fun e w'=> ∃va,e= .returned va/\Eg (N+1+1+1) w0 w' c a q (ZK (ZK (ZK Z N (Xm b 68 (Ze v))) (N+1) (YU 23 1 vb s.V.length ((Qj s.V).map FG))) (N+1+1) (YU 3 1 va A.length (A.map (Value.int .i64)))) s L):=Za (by
  obtain ⟨X,hX,Uz,hh,_,hK,_⟩:=H2.o.open;refine (hh.ahead hX Uz cl).mono fun e w' ⟨va,he,g1,_⟩=>⟨va,he,?_⟩
  have g2:=hK _ _ _ _ g1 Jl rfl rfl;rw [HX.o.1] at g2;exact g2)
 refine JC (i:=10) ?_;refine Jk ?_;refine JA #[.pointer (some ⟨a.n,0,none⟩),.int .i64 cl] call216 ((HAh.o).mono ?_);rintro e w3 ⟨va,rfl,h3⟩;have H3:=Za h3;refine ⟨_,rfl,h3.blk,?_⟩;clear h3 HAh H2;have HWt:Zj (Zv Zb 215 #[vb,va] w3 fun e w'=> ∃bb,e= .returned (.tuple #[.int .u64 x,.bool bb])/\Below w3.heap.size w3 w'):=Za (by
  have r1:=H3.o.row (r:=N+1) Yd Zd Uv;have r2:=H3.o.row (r:=N+1+1) Yd Zd Zr;obtain ⟨ia,ic,rfl,hl1,_,_,hia⟩:=QC (S:=fun _=>False) r2 (fun _ _ h=>h);obtain ⟨ua,uc,rfl,vH,_,hua⟩:=Ho (S:=fun _=>False) (L:=Qj s.V) r1 (fun _ _ h=>h);have:=jd (cap:=uc) (ic:=ic) hua (by rw [vH]; have:=HX.o.2.2.2; omega) (fun j=>Hq HFi.o j) hia HX.o.2.2.1;rw [vH] at this;exact this.mono fun e w' ⟨he,hb⟩=>⟨KS (A.map (wV s.V)) A.length,by rw [he,<-HX.o.2.1]; rfl,hb⟩)
 refine JC (i:=11) ?_;refine Jk ?_;refine JA #[vb,va] call215 ((HWt.o).mono ?_);rintro e w4 ⟨bb,rfl,hb⟩;have h4:Eg (N+1) w0 w4 c a q (ZK Z N (Xm b 68 (Ze v))) s L:=(((H3.o.below hb).less Yd).less Yd).ext fun k h1 h2=>by rw [Zy Zd,Zy Zd]
 have H4:=Za h4;refine ⟨_,rfl,h4.blk,?_⟩;clear h4 hb HWt H3;refine Jk ?_;refine TS (fun w'=>Zu w' q.e 102 (UN c a q)) (m:=4) (f:=0) [12,13,14,15] (?_) ?_
 ·exact H4.o.blk
 refine JH ?_;refine Hg ?_;refine Dw ?_;refine Yo ?_;refine GD ?_;refine ⟨by kernel_rfl,?_⟩;refine LA ?_;go_wp2_with fail;refine U1 ?_;go_wp2_with fail;have H5:=Za (H4.o.drew);have HEp:=Za (BI H5.o HT.o.1 HT.o.2.1 HT.o.2.2.1 HT.o.2.2.2);have HBx:Zj (Zu w4.drew b 68 (Ze v)):=Za (H5.o.blkAt (r:=N) HN.o Zd Zr);refine L5 (fun w'=>Zu w' q.e 102 (UN c a q)/\Zu w' b 68 (Ze v)) 14 4 [0,1,2,4,5,6,7,8,9,10] (?_) ?_
 ·exact ⟨H5.o.blk,HBx.o⟩
 refine JH ?_;refine mX ?_;refine Sk ?_;refine KY _ ⟨b,0,none⟩ (.int .u64 v.bal) (fun w h=>h.2.cell 0) ?_;refine X7 ?_;refine Ec ?_;refine Ot 30 _ q.e 0 (Zi c).toList _ rfl rfl rfl (fun w h=>TN h.1) underlying30 rfl Qk ?_;refine Jk ?_;refine Yo ?_;generalize w4.drew=V4 at*;refine JC (i:=3) ?_;refine JA #[.pointer (some ⟨q.e,20,none⟩)] call42 ((HEp.o).mono ?_);rintro e w5 ⟨rfl,m,rfl⟩;have h6:=H5.o.drewN m;refine ⟨_,rfl,⟨h6.blk,HBx.o⟩,?_⟩;have H6:=Za h6;clear h6;refine JC (i:=11) ?_;refine Jk ?_;refine JA #[.int .i64 s.ep,.int .u64 x,.int .u64 v.bal,.agg (Zi c)] call217 ((HP.o (V4.drewN m)).mono ?_);rintro e w6 ⟨rfl,hb⟩;have h7:=H6.o.below hb;have H7:=Za h7;refine ⟨_,rfl,⟨h7.blk,h7.blkAt (r:=N) HN.o Zd Zr⟩,?_⟩;clear hb h7 H6 H5 HEp HBx;rw [HDue.o,Ol];refine Jk ?_;refine TS (fun w'=>Zu w' q.e 102 (UN c a q)/\Zu w' b 68 (Ze v)) (m:=2) (f:=0) [12,13] (?_) ?_
 ·exact ⟨H7.o.blk,H7.o.blkAt (r:=N) HN.o Zd Zr⟩
 refine JH ?_;refine je ?_;refine BZ ?_;refine Yo ?_;refine GD ?_;refine ⟨by kernel_rfl,?_⟩;refine LA ?_;go_wp2_with fail;refine U1 ?_;go_wp2_with fail;go_ret2;exact ⟨by rw [Ol]; rfl,H7.o.drop HN.o⟩
end
end
section
open Go Go.RowKit Go.Deep
section
variable {N:Nat} {w0:FP} {w w' w1:Zc} {c:Nat->Int} {a:Pl} {q:Ql} {Z:Nat->Zc->(Nat->Prop)->Prop} {s s':Sg} {L L':List QZ} {k:Nat}
theorem bJ {o:Oq}{cl kk:Int}(h:qJ c s o.ix cl=kk)(hk:kk≠0) :SA c s o cl=(BN s o.kd kk,s):=by unfold SA; rw [h,if_neg hk]
theorem ZbO {o:Oq}{cl:Int}(h:qJ c s o.ix cl=0) :SA c s o cl=(LW s o.kd o.ix (exD c s o.ix cl),L8 c s o.ix cl):=by unfold SA; rw [if_pos h]
theorem uN (hc:GE c)(hi:Inv c k s)(hk:k<=1000000)(h:Eg N w0 w c a q Z s L)(o:Oq)(ho:UG o){cl:Int}(FA:cl=0\/cl=1) :Zv Zb 125 #[.pointer (some ⟨q.e,0,none⟩),.agg (Z6 o),.int .i64 cl] w (OpP N w0 c a q Z (SA c s o cl) L):=by
 have hN:=h.low;have hO:=EA h o;have HT:=Za (hi.tm hc hk);have HN:=Za hN;have HC:=Za (Zm hc (Zm hi (Zm hk (Zm ho FA))));have hex:=ZkN hi hk o.ix cl;have HEX:=Za hex;obtain ⟨u,hu⟩ : ∃u,(if F6 s.V o.ix=true then ZU else VW s.V o.ix)=u:=⟨_,rfl⟩;obtain ⟨ok,Ag⟩:=ZR ((!F6 s.V o.ix));have HU:=Za (Zm hu Ag);have HGt:Zj (∀wx,Of N w0 wx c a q Z s L w.heap.size o->Z3 126 #[.pointer (some ⟨a.r,0,none⟩),.int .i64 o.ix] wx (.tuple #[.agg (Ze u),.bool ok])):=Za (fun wx hx=>by
  obtain ⟨X,hX,Uz,hh,_⟩:=Eg.open hx
  cases hb:F6 s.V o.ix with
  | true=>
   exact Zfq
  | false=>
   rw [hb] at hu Ag;obtain ⟨n,e,hn⟩:=UK hb;rw [<-hu,<-Ag];have:=hh.get_in Uz hn;rw [<-e] at this;exact this)
 clear hc hi hk ho FA hN h hex hu Ag;go_enter func125,ntmps125;go_upto_region 1 with (fail);generalize hW:(w.alloc (.cells (Z6 o) 49)).alloc (.cells _ 53)=W;have eW:(w.alloc (.cells (Z6 o) 49)).alloc (.cells (Z9 Bi) 53)=W:=hW;rw [eW] at hO;generalize w.heap.size=b at*;have HO:=Za hO;clear hW eW hO;go_cut [7,8] from 9 to 20 (fun s7 s8 wx=> ∃zb:Nat,s7= .pointer (some ⟨zb,0,none⟩)/\s8= .bool ok/\Zj (Eg (N+2+1) w0 wx c a q (ZK (ZK (ZK Z N (Xm b 49 (Z6 o))) (N+1) (Xm (b+1) 53 (Z9 Bi))) (N+2) (Xm zb 68 (Ze u))) s L))
 case first=>
  exact zT1
 case rest=>
  obtain ⟨zb,rfl,rfl,HE⟩:=hcut;clear HGt HO
  cases hb:F6 s.V o.ix with
  | true=>
   have pG:Zj (SA c s o cl=(BN s o.kd 7,s)):=Za (bJ (by rw [HEX.o,if_pos hb]) Y5);obtain rfl:ok=false:=by rw [<-HU.o.2,hb]; rfl
   have HD:Zj (Of N w0 wc c a q Z s L b o):=Za (HE.o.drop Yd);have HE:=pG;clear pG HEX HU HC hb;exact P9
  | false=>
   obtain rfl:ok=true:=by rw [<-HU.o.2,hb]; rfl
   have hu:=HU.o.1;rw [hb] at hu;replace hu:VW s.V o.ix=u:=hu;obtain ⟨n,hn,fZ⟩:=UK hb;have hex:=HEX.o;rw [hb,hu] at hex;replace hex:qJ c s o.ix cl=if u.st≠2 then 8 else if c 1<=(UA s.F s.W cl).length then 6 else if WM c s cl u=none then 10 else 0:=hex
   rw [hu] at fZ;have HV:=Za (Zm hn (Zm fZ hu));have HX:=Za hex;have y1:wc.cell? ⟨zb,1,none⟩=some (.int .i64 u.st):=(HE.o.blkAt (r:=N+2) Yd Zd Zr).cell 1;clear HEX HU hb hex hu hn fZ
   by_cases h2:u.st=2
   ·have d2:(u.st != 2)=false:=by simp [h2]
    have HF:Zj (Zv Zb 127 #[.pointer (some ⟨q.e,24,none⟩),.int .i64 cl] wc fun e w'=>e= .returned (.bool (((Mv (c 1).toNat s.F s.W cl:Nat) :Int)==0))/\ ∃m,w'=wc.drewN m):=Za (Zd9 HE.o cl);obtain ⟨f,hf⟩:=ZR (Mv (c 1).toNat s.F s.W cl);rw [hf] at HF;rw [Og HC.o.2.2.2.2] at hf;have hll:((UA s.F s.W cl).length:Int)<=c 1:=by
     have h4:=HC.o.2.1.fl;have h5:=HC.o.2.1.wl
     rcases HC.o.2.2.2.2 with e | e <;> subst e <;> simpa [UA] using by assumption
    have HH2:=Za h2;clear h2
    by_cases h3:c 1<=((UA s.F s.W cl).length:Int)
    ·have HE6:Zj (SA c s o cl=(BN s o.kd 6,s)):=Za (bJ (by rw [HX.o,if_neg (by rw [HH2.o]; decide),if_pos h3]) Y5);obtain rfl:f=0:=Zd;clear h3 hll hf HX HV HC HH2;exact Zmc
    ·have hfp:((f:Int)==0)=false:=Xo;have HX2:Zj (qJ c s o.ix cl=if WM c s cl u=none then 10 else 0):=Za (by rw [HX.o,if_neg (by rw [HH2.o]; decide),if_neg h3]);have HL3:Zj (((UA s.F s.W cl).length:Int)< c 1):=Za Zd;clear hf hll h3 HX;go_wp2_with fail;refine HF.o.mono ?_;rintro e w2 ⟨rfl,m,rfl⟩;have Me:=Za (HE.o.drewN m);clear HF HE y1 d2;generalize wc.drewN m=W2 at*;have HZ2:Zj (Zu W2 zb 68 (Ze u)):=Za (Me.o.blkAt (r:=N+2) Yd Zd Zr);have ju:Yp u:=HC.o.2.1.fits u (Xt HV.o.2.1);have HPr:=Za (uS HC.o.1 HC.o.2.1 HC.o.2.2.1 Me.o ju cl);rw [Ol] at HPr;obtain ⟨d,hd⟩:=ZR (WM c s cl u);rw [hd] at HPr HX2;have HDd:=Za hd;clear hd ju;go_wp2_with (first | (refine Kl 68 zb HZ2.o underlying68 Ya ?_));refine HPr.o.mono ?_;rintro e w3 ⟨rfl,h3⟩;have OM:=Za h3;clear HPr h3 Me HZ2 hfp
     cases hdd:d with
     | none=>
      subst hdd;have Zj5:Zj (SA c s o cl=(BN s o.kd 10,s)):=Za (bJ (by rw [HX2.o,if_pos rfl]) Y5);have HD:Zj (Of N w0 w3 c a q Z s L b o):=Za (OM.o.drop Yd);clear OM HX2 HL3 HDd HV HC HH2;have HE:=Zj5;clear Zj5;exact P9
     | some t=>
      subst hdd;have tj:Zj (SA c s o cl=(LW s o.kd o.ix t,L8 c s o.ix cl)):=Za (by
       rw [ZbO (by rw [HX2.o,if_neg ZE])];unfold exD;rw [HV.o.2.2,HDd.o]; rfl)
      have hS:L8 c s o.ix cl= { s with V:=s.V.set n { u with rq:=s.ep,st:=3,dl:=t},F:=LH (c 1).toNat s.F cl o.ix,W:=LI (c 1).toNat s.W cl o.ix}:=by
       unfold L8 exD CU;have qY:=Rl (v:=u) (e:=s.ep) dI;rw [HV.o.2.2,HDd.o,qY.2,HV.o.1];rfl
      have HS:=Za hS;clear hS HX2;have HT3:=HT.o;have HAc:Zj (∀wx,Z3 174 #[.agg (Ze u),.int .i64 s.ep] wx (.tuple #[.agg (Ze { u with rq:=s.ep,st:=3}),.int .i64 0])):=Za (fun wx=>by
       have h0:=jD u s.ep wx (HC.o.2.1.fits u (Xt HV.o.2.1)).2;have qY:=Rl (v:=u) (e:=s.ep) dI;have hac1:(QE [XA s.ep,QH 2] u).1=0:=dI;unfold ans at h0;rw [qY.2,hac1] at h0;exact h0)
      go_wp2_with fail;go_cut [7] from 55 to 63 (fun s7 wx=>s7= .pointer (some ⟨zb,0,none⟩)/\Zj (Eg (N+2+1) w0 wx c a q (ZK (ZK (ZK Z N (Xm b 49 (Z6 o))) (N+1) (Xm (b+1) 53 (Z9 Bi))) (N+2) (Xm zb 68 (Ze { u with rq:=s.ep,st:=3}))) s L))
      case first=>
       have kv:Of N w0 w3.drew c a q Z s L b o:=OM.o.drew.drop Yd;refine Ti (fun w'=>Of N w0 w' c a q Z s L b o) 7 [1,2,3] (?_) ?_
       ·exact kv
       refine JH ?_;refine Nh ?_;refine Ec ?_;refine Yo ?_;have Tn:=Za OM.o.drew;clear OM;generalize w3.drew=V3 at*;refine KC (i:=0) (k:=4) ZC ZE ZE ?_ ?_
       ·refine Yv rfl rfl (wp_load_row 68 _ rfl zb rfl 68 (Ze u) (0,0) _ (Tn.o.blkAt (r:=N+2) Yd Zd Zr) underlying68 rfl Ya ?_);refine ⟨kv,?_⟩;refine JC (i:=4) ?_;refine Jk ?_;refine JA #[.pointer (some ⟨q.e,20,none⟩)] call42 ((BI Tn.o HT3.b0 HT3.b1 HT3.l HT3.q).mono ?_);rintro e w4 ⟨rfl,m4,rfl⟩;have aW:=Za (Tn.o.drewN m4);refine ⟨_,rfl,aW.o.drop Yd,?_⟩;clear Tn HT3 kv;generalize V3.drewN m4=V4 at*;exact Zl5
       ·refine JA #[.pointer (some ⟨q.e,20,none⟩)] call42 ((BI Tn.o HT3.b0 HT3.b1 HT3.l HT3.q).mono ?_);rintro e w4 ⟨rfl,m4,rfl⟩;have aW:=Za (Tn.o.drewN m4);have hD1:Of N w0 (V3.drewN m4) c a q Z s L b o:=aW.o.drop Yd;refine ⟨_,rfl,hD1,?_⟩;clear Tn HT3 kv;generalize V3.drewN m4=V4 at*;refine JC (i:=0) ?_;refine Jk ?_;refine Yv rfl rfl (wp_load_row 68 _ rfl zb rfl 68 (Ze u) (0,0) _ (aW.o.blkAt (r:=N+2) Yd Zd Zr) underlying68 rfl Ya ?_);refine ⟨hD1,?_⟩;exact Zl5
      case rest=>
       obtain ⟨rfl,HE8⟩:=hcut;have hB:=HE8.o.blkAt (r:=N+2) Yd Zd Zr;have hfz:wc.frozen? ⟨zb,6,none⟩=false:=hB.frozen 6;have hc6:=Xx hB 6;have h9:=HE8.o.setc (r:=N+2) Yd Zd Zr 6 (.int .i64 t);rw [XB] at h9;have CT:Zj (Eg (N+2+1) w0 (wc.setCell ⟨zb,6,none⟩ (.int .i64 t)) c a q (ZK (ZK (ZK Z N (Xm b 49 (Z6 o))) (N+1) (Xm (b+1) 53 (Z9 Bi))) (N+2) (Xm zb 68 (Ze { u with rq:=s.ep,st:=3,dl:=t}))) s L):=Za h9;clear h9 hB HE8;go_wp2_with fail;clear hfz hc6;generalize wc.setCell ⟨zb,6,none⟩ (.int .i64 t)=W9 at*;have HO9:Zj (Of N w0 W9 c a q Z s L b o):=Za (CT.o.drop Yd);have x21:=Eg.x21 CT.o;have k1:=Of.k1 HO9.o HN.o;have HB9:=Za (CT.o.blkAt (r:=N+2) Yd Zd Zr);clear CT;refine BU 8 ?_;refine BY ?_;refine dN ?_;refine Jb 68 _ zb 68 (Ze { u with rq:=s.ep,st:=3,dl:=t}) _ rfl rfl rfl (fun w' h=>by obtain ⟨m,rfl⟩:=h; exact HB9.o) underlying68 rfl Ya ?_;refine X7 ?_;refine Yo ?_;intro _ JG;obtain ⟨nr,Xk⟩:=JG;subst Xk;clear HB9 x21 k1;have ni:Zj (Zv Zb 175 #[.pointer (some ⟨a.r,0,none⟩),.int .i64 o.ix,.agg (Ze { u with rq:=s.ep,st:=3,dl:=t})] (W9.drewN nr) fun e w'=>e= .returned (.int .i64 0)/\Of N w0 w' c a q Z { s with V:=s.V.set n { u with rq:=s.ep,st:=3,dl:=t}} L b o):=Za (by
        have hx:=Kn HO9.o nr;obtain ⟨X,hX,Uz,hh,hK,_⟩:=Eg.open hx;have ju:=HC.o.2.1.fits u (Xt HV.o.2.1);have gg:=HC.o.2.1.total HC.o.1;have hs:=hh.set hX Uz (v':= { u with rq:=s.ep,st:=3,dl:=t}) HV.o.2.1 ⟨ju.1,rfl⟩ (by show Zw s.V - u.bal+u.bal<=_; omega);rw [<-HV.o.1] at hs;exact hs.mono fun e w' ⟨he,h1⟩=>⟨he,hK _ _ _ h1 rfl rfl⟩)
       clear HO9;generalize W9.drewN nr=W10 at*;go_wp2_with fail;refine ni.o.mono ?_;rintro e w11 ⟨rfl,GM⟩;have ZaZ:=Za GM;clear GM ni;go_wp2_with fail;have x24:=Eg.x24 ZaZ.o;have k1:=Of.k1 ZaZ.o HN.o;refine BU 8 ?_;refine BY ?_;iterate 8 (go_big_quiet_step ((intros; rfl)))
       refine Yo ?_;intro _ JG;obtain ⟨nr,Xk⟩:=JG;subst Xk;clear x24 k1;have Iy:Zj (Zv Zb 130 #[.pointer (some ⟨a.n,0,none⟩),.int .i64 cl,.int .i64 o.ix] (w11.drewN nr) fun e w'=>(∃r,e= .returned (.int .i64 r))/\Of N w0 w' c a q Z (L8 c s o.ix cl) L b o):=Za (by
        have hx:=Kn ZaZ.o nr;obtain ⟨X,hX,Uz,hh,hK,_⟩:=Eg.open hx;refine (hh.lpush hX Uz cl o.ix).mono fun e w' ⟨he,h1⟩=>⟨⟨_,he⟩,?_⟩
        rw [HS.o];exact hK _ _ _ h1 rfl rfl)
       clear ZaZ;generalize w11.drewN nr=W12 at*;go_wp2_with fail;refine Iy.o.mono ?_;rintro e w13 ⟨⟨r13,rfl⟩,kt⟩;have HD:=Za kt;have HT2:Zj (Tm c (L8 c s o.ix cl)):=Za ⟨HT.o.b0,HT.o.b1,HT.o.l,HT.o.q⟩;have HE:=tj;clear kt Iy tj HS HV HC HH2 HL3 HDd;exact mZ
   ·have HE8:Zj (SA c s o cl=(BN s o.kd 8,s)):=Za (bJ (by rw [HX.o,if_pos h2]) Y5);have d2:(u.st != 2)=true:=by simp [h2]
    have HD:Zj (Of N w0 wc c a q Z s L b o):=Za (HE.o.drop Yd);have HE:=HE8;clear HE8 HX HV HC h2;exact P9
theorem ZkF (hc:GE c)(hi:Inv c k s)(hk:k<=1000000)(h:Eg N w0 w c a q Z s L)(o:Oq)(ho:UG o) :Zv Zb 85 #[.pointer (some ⟨q.e,0,none⟩),.agg (Z6 o)] w (OpP N w0 c a q Z (SA c s o 1) L):=by
 have hN:=h.low;have hO:=EA h o;have HN:=Za hN;have H:=Za (fun W (hO:Of N w0 W c a q Z s L w.heap.size o)=>uN (N:=N+2) hc hi hk hO o ho (cl:=1) ZE);obtain ⟨r,hr⟩:=ZR (SA c s o 1);rw [hr] at H ⊢;clear hc hi hk h ho hN hr;go_enter func85,ntmps85;go_upto_region 1 with (fail);generalize hW:(w.alloc (.cells (Z6 o) 49)).alloc (.cells _ 53)=W;have eW:(w.alloc (.cells (Z6 o) 49)).alloc (.cells (Z9 Bi) 53)=W:=hW;rw [eW] at hO;generalize w.heap.size=b at*;have Ix:=Za (hO.op HN.o);have HL:=Za (H.o W hO);clear hW eW hO H;go_wp2_with (first | (refine Kl 49 b Ix.o underlying49 DO ?_));refine HL.o.mono ?_;rintro e w9 ⟨rfl,h9⟩;have H9:=Za h9;have CN:=Za (Of.rc h9 HN.o);clear h9 HL Ix;go_wp2_with (first | (refine Up (b+1) (Z9 (rcP r.1)) 53 CN.o Vs (Ka _) ?_));exact bodyPost_ret (v:= .agg (Z9 (rcP r.1))) (results_cell_row (fn:=Tryz.f85) rfl _ _ (b+1) 53 _ (0,0) _ rfl (setRow_heap _ _ _ _ _ _ CN.o) underlying53 rfl Vs) rfl (Zm rfl (Of.done H9.o HN.o _))
theorem ZgY (hc:GE c)(hi:Inv c k s)(hk:k<=1000000)(h:Eg N w0 w c a q Z s L)(o:Oq)(ho:UG o) :Zv Zb 86 #[.pointer (some ⟨q.e,0,none⟩),.agg (Z6 o)] w (OpP N w0 c a q Z (SA c s o 0) L):=by
 have hN:=h.low;have hO:=EA h o;have HN:=Za hN;have H:=Za (fun W (hO:Of N w0 W c a q Z s L w.heap.size o)=>uN (N:=N+2) hc hi hk hO o ho (cl:=0) ZE);obtain ⟨r,hr⟩:=ZR (SA c s o 0);rw [hr] at H ⊢;clear hc hi hk h ho hN hr;go_enter func86,ntmps86;go_upto_region 1 with (fail);generalize hW:(w.alloc (.cells (Z6 o) 49)).alloc (.cells _ 53)=W;have eW:(w.alloc (.cells (Z6 o) 49)).alloc (.cells (Z9 Bi) 53)=W:=hW;rw [eW] at hO;generalize w.heap.size=b at*;have Ix:=Za (hO.op HN.o);have HL:=Za (H.o W hO);clear hW eW hO H;go_wp2_with (first | (refine Kl 49 b Ix.o underlying49 DO ?_));refine HL.o.mono ?_;rintro e w9 ⟨rfl,h9⟩;have H9:=Za h9;have CN:=Za (Of.rc h9 HN.o);clear h9 HL Ix;go_wp2_with (first | (refine Up (b+1) (Z9 (rcP r.1)) 53 CN.o Vs (Ka _) ?_));exact bodyPost_ret (v:= .agg (Z9 (rcP r.1))) (results_cell_row (fn:=Tryz.f86) rfl _ _ (b+1) 53 _ (0,0) _ rfl (setRow_heap _ _ _ _ _ _ CN.o) underlying53 rfl Vs) rfl (Zm rfl (Of.done H9.o HN.o _))
end
end
end Go.Proofs.YtobgbcdgffgdhaaGreat
