/- Part 27 of 31: Go6 Go7 Md Dep Pro Lev. -/
import Derived.Test.YtobgbcdgffgdhaaGreatZw00
import Derived.Test.YtobgbcdgffgdhaaGreatZw26
namespace Go.Proofs.YtobgbcdgffgdhaaGreat
set_option linter.unusedVariables false
set_option linter.unusedSimpArgs false
set_option maxRecDepth 100000
set_option maxHeartbeats 8000000
open _root_.And renaming intro -> Zn
open _root_.Go renaming Calls -> Zv, World -> Zc, wpQuiet -> ZZ
open _root_.Go.Proofs.YtobgbcdgffgdhaaGreat.Eg renaming drewN -> J4
open _root_.Go.Proofs.YtobgbcdgffgdhaaGreat.Zx renaming setCells -> Q6
open _root_.List renaming drop_eq_getElem?_toList_append -> Kd, ext_getElem -> Ki, getD_eq_getElem?_getD -> Zm, getElem?_eq_getElem -> Zg, getElem?_eq_some_iff -> Zj, getElem?_map -> ZH, length_map -> YG, replicate -> ZP
open _root_.Nat renaming le_trans -> ZY
open _root_.Go.Region renaming wanted -> XJ
open _root_.Go.Proofs.Tryz renaming prog -> Zb
open Go.Proofs.Tryz
theorem kN {G:Prop}(h:G:=by rw [List.getElem?_take_of_lt XV]; exact hp) :G:=h
theorem kK {G:Prop}(h:G:=by simp only [HE.o]; exact Of.done H9.o HN.o _) :G:=h
theorem kH {G:Prop}(h:G:=by have:=HV.o.2.2; have:=HV.o.2.1; unfold maxLen; omega) :G:=h
theorem IV {G:Prop}(h:G:=by rw [aq (HC.o.2.1.ep_in HC.o.2.2.1),if_pos HH2.o]) :G:=h
theorem RW {G:Prop}(h:G:=by rw [HM.o]; exact XV) :G:=h
theorem RV {G:Prop}(h:G:=by rw [HM.o]; exact Nat.le_refl _) :G:=h
theorem tF {G H:Prop} (k:H) (h:DE H->G:=by
  intro zk;refine Vk _ ⟨q.e,21,none⟩ (.pointer (some ⟨a.r,0,none⟩)) (fun w h=>Eg.x21 h) ?_;exact zk.o) :G:=h ⟨k⟩
theorem ZbA {G:Prop} (h:G:=by
  refine Q3 ?_;refine Mj (fun w'=>Of N w0 w' c a q Z s L b o) (m:=1) (f:=0) [13] (?_) ?_
  ·exact h4
  refine JL ?_;refine Hf ?_;refine Gz ?_;refine XK ?_;refine ⟨by kernel_rfl,NoPanic.normal ?_⟩;refine Q3 ?_;go_wp2_with fail;go_meet;exact ⟨_,rfl,rfl,Za h3⟩) :G:=h
theorem ZbC {G:Prop} (h:G:=by
  have WX:=Za (Of.op HD.o HN.o);go_wp2_with (first | (refine Kz 49 b WX.o underlying49 BA ?_));refine (jD (N:=N+2) HD.o HT.o o _).mono ?_;rintro e w9 ⟨rfl,h9⟩;have H9:=Za h9;have Wq:=Za (Of.rc h9 HN.o);clear h9 WX HD;go_wp2_with (first | (refine Zef (b+1) Wq.o ?_));exact bodyPost_ret (results_cell_row rfl _ _ (b+1) 53 _ (0,0) _ rfl (setRow_heap _ _ _ _ _ _ Wq.o) underlying53 rfl Vi) rfl (And.intro (by simp only [HE.o]; rfl) kK)) :G:=h
theorem zT1 {G:Prop} (h:G:=by
  refine Ra (fun w'=>Of N w0 w' c a q Z s L b o) 7 [0,1,2,3,4,5,6] (?_) ?_
  ·exact Eg.drew HO.o
  refine JL ?_;show wpQuiet _ _ _ _ [_,_,_,_,_,_,_] _;refine Bi ?_;refine tF ?_;refine X5 ?_;refine Gz ?_;refine Vk _ ⟨b,1,none⟩ (.int .i64 o.ix) (fun w h=>Of.k1 h HN.o) ?_;refine X5 ?_;refine XK ?_;have hD:Of N w0 W.drew c a q Z s L b o:=Eg.drew HO.o;clear HO;generalize W.drew=V at*;refine Vh (i:=7) (k:=11) ZC ZE ZE ?_ ?_
  ·refine JC #[.pointer (some ⟨a.r,0,none⟩),.int .i64 o.ix] call126 ((vu.o _ hD).mono ?_);rintro e w2 ⟨rfl,hb⟩;have h2:Of N w0 w2 c a q Z s L b o:=Eg.below hD hb;refine ⟨_,rfl,h2,?_⟩;clear hb;refine Q3 ?_;refine Mj (fun w'=>Of N w0 w' c a q Z s L b o) (m:=6) (f:=3) [8,9,10] (?_) ?_
   ·exact h2
   refine JL ?_;refine Pw ?_;refine DL ?_;refine XK ?_;refine Jg (i:=11) ?_;refine Yz rfl rfl (Kc rfl ?_);refine ⟨Eg.below h2 ((Below.refl _ _).alloc (Nat.le_refl _) _),?_⟩;refine Q3 ?_;refine Jg (i:=12) ?_;refine Yz rfl rfl (wp_store_row _ _ _ rfl w2.heap.size (Zd u) rfl rfl 68 _ (heap_alloc_new w2 _) Yb rfl (Ys _) ?_);rw [ko];have h3:=Eg.box h2 (Zd u) 68;have h4:Of N w0 (w2.alloc (.cells (Zd u) 68)) c a q Z s L b o:=Eg.below h2 ((Below.refl _ _).alloc (Nat.le_refl _) _);refine ⟨h4,?_⟩;generalize w2.alloc (.cells (Zd u) 68)=w4 at*;exact ZbA
  ·refine Yz rfl rfl (Kc rfl ?_);have h1:=Eg.box hD (Zd ZS) 68;have h1':Of N w0 (V.alloc (.cells (Zd ZS) 68)) c a q Z s L b o:=Eg.below hD ((Below.refl _ _).alloc (Nat.le_refl _) _);refine ⟨h1',?_⟩;generalize V.heap.size=zb at*;generalize V.alloc (.cells (Zd ZS) 68)=V1 at*;refine Q3 ?_;refine Jg (i:=7) ?_;refine Q3 ?_;refine JC #[.pointer (some ⟨a.r,0,none⟩),.int .i64 o.ix] call126 ((vu.o _ h1').mono ?_);rintro e w2 ⟨rfl,hb⟩;have h2:=h1.below hb;have h2':Of N w0 w2 c a q Z s L b o:=Eg.below h1' hb;refine ⟨_,rfl,h2',?_⟩;clear hb;refine Q3 ?_;refine Mj (fun w'=>Of N w0 w' c a q Z s L b o) (m:=5) (f:=2) [8,9,10] (?_) ?_
   ·exact h2'
   refine JL ?_;refine Pw ?_;refine DL ?_;refine XK ?_;refine Jg (i:=12) ?_;have hB:=h2.blkAt (r:=N+2) ZO Ze Zq;refine Yz rfl rfl (wp_store_row _ _ _ rfl zb (Zd u) rfl rfl 68 _ hB Yb rfl (Ys _) ?_);have h3:=h2.setr (r:=N+2) ZO Ze Zq (cs':=Zd u) (Zu.setRow hB _) (Zx.setRow (S:=fun i=>i=zb) (Zx.refl _ _) (.inl rfl) _);rw [Xx] at h3;have h4:Of N w0 (w2.setRow zb (Zd u)) c a q Z s L b o:=h3.drop ZO;refine ⟨h4,?_⟩;generalize w2.setRow zb (Zd u)=w4 at*;exact ZbA) :G:=h
theorem Zho {G:Prop} (h:G:=by
  refine Q3 ?_;refine DM ?_;refine Q3 ?_;refine JC #[.agg (Zd u),.int .i64 s.ep] call174 ((HAc.o _).mono ?_);rintro e w5 ⟨rfl,hb5⟩;have zy:=Za (Ck.o.below hb5);have h6:Of N w0 w5 c a q Z s L b o:=zy.o.drop ZO;refine ⟨_,rfl,h6,?_⟩;clear Ck hb5 HAc;refine Q3 ?_;refine Mj (fun w'=>Of N w0 w' c a q Z s L b o) (m:=4) (f:=1) [6,7,8] (?_) ?_
  ·exact h6
  refine JL ?_;refine Pw ?_;refine DL ?_;refine XK ?_;refine Jg (i:=9) ?_;have hB:=zy.o.blkAt (r:=N+2) ZO Ze Zq;refine Yz rfl rfl (wp_store_row _ _ _ rfl zb (Zd { u with rq:=s.ep,st:=3}) rfl rfl 68 _ hB Yb rfl (Ys _) ?_);have h7:=zy.o.setr (r:=N+2) ZO Ze Zq (cs':=Zd { u with rq:=s.ep,st:=3}) (Zu.setRow hB _) (Zx.setRow (S:=fun i=>i=zb) (Zx.refl _ _) (.inl rfl) _);rw [Xx] at h7;have ln:=Za h7;refine ⟨h7.drop ZO,?_⟩;clear zy h6 hB h7;generalize w5.setRow zb (Zd { u with rq:=s.ep,st:=3})=w7 at*;refine ⟨by kernel_rfl,NoPanic.normal ?_⟩;refine Q3 ?_;go_wp2_with fail;go_meet;exact ⟨rfl,ln⟩) :G:=h
theorem Zhv {G:Prop} (h:G:=by
  go_wp2_with fail;refine HF.o.mono ?_;rintro e w2 ⟨rfl,m,rfl⟩;have HD:Zl (Of N w0 (wc.drewN m) c a q Z s L b o):=Za ((HE.o.drop ZO).drewN m);clear HF HE y1;have HE:=zy;clear zy d2;generalize wc.drewN m=V at*;exact ZbC) :G:=h
theorem jm {G:Prop} (h:G:=by
  have WX:=Za (Of.op HD.o HN.o);have kix:=Of.k1 HD.o HN.o;go_wp2_with (first | (refine Kz 49 b WX.o underlying49 BA ?_));refine (jB (N:=N+2) HD.o HT2.o o _ _).mono ?_;rintro e w9 ⟨rfl,h9⟩;have H9:=Za h9;have Wq:=Za (Of.rc h9 HN.o);clear h9 WX HD kix;go_wp2_with (first | (refine Zef (b+1) Wq.o ?_));exact bodyPost_ret (results_cell_row rfl _ _ (b+1) 53 _ (0,0) _ rfl (setRow_heap _ _ _ _ _ _ Wq.o) underlying53 rfl Vi) rfl (And.intro (by simp only [HE.o]; rfl) kK)) :G:=h
theorem Om {G:Prop} (h:G:=by
  exact ZbC) :G:=h
theorem Zif {G:Prop} (h:G:=by
  go_wp2_with fail;refine H.o.mono ?_;rintro e w2 ⟨v,rfl,h2⟩;have H2:=Za h2;clear h2 H;go_wp2_with fail;go_ret;exact ⟨_,rfl,H2.o⟩) :G:=h
theorem Zit {G:Prop} (h:G:=by
  go_wp2_with fail;go_roundw
  case rel=>exact ⟨j+1,by omega,by go_num,H4,HZ2⟩
  case measure=>simp [intOf]; omega) :G:=h
theorem Za1 {G:Prop} (h:G:=by
  rw [hb] at hu SX;rw [<-hu,<-SX];exact hh.get_out VV (by simpa [EI] using hb)) :G:=h
section
open Go Go.RowKit Go.Deep
def I9 (n:Nat)(F:List Nat) :List Bool:=(List.range n).map fun j=>decide (j ∈ F)
theorem xE (n:Nat)(F:List Nat) :(I9 n F).length=n:=by simp [I9]
theorem xF (n:Nat) :I9 n []=ZP n false:=by
 apply Ki (by simp [I9]);intro i h1 h2;simp [I9]
theorem xG {n:Nat}{F:List Nat}{k i:Nat}(hk:F[k]?=some i) :(I9 n (F.take k)).set i true=I9 n (F.take (k+1)):=by
 apply Ki (by simp [I9]);intro j h1 h2;rw [List.getElem_set];simp only [I9,List.getElem_map,List.getElem_range];rw [List.take_add_one,hk]
 by_cases h:i=j
 ·subst h; simp
 ·rw [if_neg h];have: ¬j=i:=fun e=>h e.symm
  simp [this]
theorem ru (V:List ZN) :I9 V.length (LM V 5 V.length)=Nd V:=by
 apply Ki (by simp [I9,Nd]);intro j h1 h2;have hj:j < V.length:=by simpa [I9] using h1
 simp only [I9,Nd,List.getElem_map,List.getElem_range];apply decide_eq_decide.2;rw [NP,Zm,Zg hj];simp [hj]
def vB (b:Bool) :Value:= .bool b
section
variable {N:Nat} {w0:Fb} {w w' w1:Zc} {c:Nat->Int} {a:Pl} {q:Ql} {Z:Nat->Zc->(Nat->Prop)->Prop} {s s':Sg} {L L':List QW}
theorem Zct (h:Eg N w0 w c a q Z s L){vs p:Int}(hcu:s.cu<=100)(hl:s.V.length<=100) :
  Zv Zb 209 #[.pointer (some ⟨q.e,21,none⟩),.int .i64 vs,.int .i64 p] w fun e w'=> ∃b2 cp,e= .returned (.tuple #[.slice b2 (Kx (Nd s.V) s.cu (FY (Nd s.V) s.cu vs p)).length cp,.int .i64 (FY (Nd s.V) s.cu vs p)])/\
   Eg (N+1) w0 w' c a q (ZG Z N (KA Ml 1 b2 (Kx (Nd s.V) s.cu (FY (Nd s.V) s.cu vs p)))) { s with cu:=DJ s.V.length s.cu (FY (Nd s.V) s.cu vs p)} L/\w.heap.size<=w'.heap.size:=by
 have hN:=h.low;have y0:=QS h.blk 21;obtain ⟨n,hn⟩:=ZT (s.V.length);have Eu:=Lz n Ze w;obtain ⟨F,hF⟩:=ZT (LM s.V 5 n);have PL:F.length<=n:=by
  have:=Zec s.V 5 (Nat.le_refl n);rw [<-hF]; unfold LM; exact ZY (List.length_filter_le _ _) ZE
 have hR:I9 n F=Nd s.V:=by rw [<-hF,<-hn]; exact ru s.V
 have HF:Zl (∀i ∈ F,i < n):=Za fun i hi=>by rw [<-hF] at hi; exact (NP.1 hi).1
 have H0:Zl (Eg (N+1) w0 (w.alloc (.cells (UM (ZP n false)) 4)) c a q (ZG Z N (Y5 w.heap.size 4 ((I9 n (F.take 0)).map vB).toArray)) s L):=Za (by
  have:=h.box (UM (ZP n false)) 4;rw [show ((I9 n (F.take 0)).map vB).toArray=UM (ZP n false) by rw [List.take_zero,xF]; rfl];exact this)
 have oG:Zl (w.heap.size<=(w.alloc (.cells (UM (ZP n false)) 4)).heap.size):=Za ZE;have HWi:=Za (zY H0.o (st:=5) rfl Ze);rw [hn,hF] at HWi;have HG:Zl (YV 120 #[.pointer (some ⟨a.r,0,none⟩)] w (.int .i64 (n:Int))):=Za (by
  obtain ⟨X,hX,VV,hh,_⟩:=h.open;have:=hh.len VV;rwa [hn] at this)
 obtain ⟨M,hM⟩:=ZT (FY (Nd s.V) s.cu vs p);obtain ⟨J,hJ⟩:=ZT (Kx (Nd s.V) s.cu M);have HN:=Za hN;have HV:=Za (Zn hn (Zn hcu (Zn hl (Zn hR (Zn hM hJ)))));have hn100:n<=100:=Ze;rw [hM,hJ,hn];clear h hn hN hcu hl hR hF hM hJ;go_enter func209,ntmps209;go_wp2_with fail;refine HG.o.mono ?_;rintro e w2 ⟨rfl,rfl⟩;clear HG;go_wp2_with fail;clear Eu;refine HWi.o.mono ?_;rintro e w3 ⟨v,rfl,h3,hle⟩;clear HWi H0;generalize hz:w.heap.size=z at*;have HZZ:=Za hz;clear hz;obtain ⟨ia,cp,rfl⟩:=Xy (h3.row (r:=N+1) ZO Ze Zq);have H3:=Za h3;have HL3:Zl (z<=w3.heap.size):=Za (ZY oG.o hle);obtain ⟨m,hm⟩:=ZT (F.length);have HM:=Za hm;rw [hm] at PL H3 ⊢;clear h3 hle oG hm y0;go_wp2_with fail;go_loopw [20] (fun s20 wr=> ∃(k:Nat),k<=m/\s20= .int .i64 k/\Zl (Eg (N+1+1) w0 wr c a q (ZG (ZG Z (N+1) (YI 3 1 (.slice ia m cp) m (F.map LL))) N (Y5 z 4 ((I9 n (F.take k)).map vB).toArray)) s L)/\Zl (z<=wr.heap.size)) (fun s20 _=>m -(intOf s20).toNat)
 case atStart=>exact ⟨0,by omega,rfl,Za (H3.o.ext fun k h1 h2=>by
  unfold ZG
  by_cases e1:k=N+1
  ·subst e1; rw [if_pos rfl,if_neg Ze,if_pos rfl]
  ·by_cases e2:k=N
   ·subst e2; rw [if_neg Ze,if_pos rfl,if_pos rfl]
   ·rw [if_neg e1,if_neg e2,if_neg e2,if_neg e1]),HL3⟩
 case round=>
  obtain ⟨k,hk,rfl,HE,HZ⟩:=hrel
  by_cases XV:k < m
  ·obtain ⟨i,hi⟩ : ∃i,F[k]?=some i:=⟨_,Zg RW⟩;have WG:i < n:=HF.o i (List.mem_of_getElem? hi);obtain ⟨g,rfl,hc⟩:=Iw (HE.o.row (r:=N+1) ZO Ze Ut) (show (F.map LL)[k]?=some (.int .i64 (i:Int)) by rw [ZH,hi]; rfl);have hB:=HE.o.blkAt (r:=N) HN.o Ze Zq;obtain ⟨uu,hc2⟩ : ∃uu,wr.cell? ⟨z,i,none⟩=some uu:=⟨_,(hB.cell i).trans (by rw [List.getElem?_toArray,Zg (by rw [YG,xE]; exact WG)])⟩;have hfz:wr.frozen? ⟨z,i,none⟩=false:=hB.frozen i;have H4:Zl (Eg (N+1+1) w0 (wr.setCell ⟨z,i,none⟩ (.bool true)) c a q (ZG (ZG Z (N+1) (YI 3 1 (.slice (some ⟨g,0,none⟩) m cp) m (F.map LL))) N (Y5 z 4 ((I9 n (F.take (k+1))).map vB).toArray)) s L):=Za (by
    have h4:=HE.o.setc (r:=N) HN.o Ze Zq i (.bool true);rw [Xx,List.setIfInBounds_toArray,show Value.bool true=vB true from rfl,<-List.map_set,xG hi] at h4;exact h4)
   have HZ4:Zl (z<=(wr.setCell ⟨z,i,none⟩ (.bool true)).heap.size):=Za (by have:=HZ.o; simpa using this);clear hB HE hi;go_wp2_with fail;exact ZaN
  ·obtain rfl:k=m:=Ze;clear XV;have XV: ¬k < k:=Ze;have h5:=HE.o;rw [List.take_of_length_le RV,HV.o.2.2.2.1] at h5;have h6:=h5.torow (r:=N) (k:=1) (n:=n) HN.o Ze Zq (by rw [YG,Nd,YG,HV.o.1,Nat.mul_one]) GU;rw [Xx] at h6;have y5:=QS h6.blk 23;have HS:Zl (Zv Zb 248 #[.pointer (some ⟨a.k,0,none⟩),.slice (some ⟨z,0,none⟩) n n,.int .i64 vs,.int .i64 p] wr fun e w'=> ∃b2 cp,e= .returned (.tuple #[.slice b2 J.length cp,.int .i64 M])/\
     Eg (N+1) w0 w' c a q (ZG Z N (KA Ml 1 b2 J)) { s with cu:=DJ n s.cu M} L/\wr.heap.size<=w'.heap.size):=Za (by
    obtain ⟨X,hX,VV,hh,bF,WE,hZk,_⟩:=h6.open;have I7:=h6.low;have hxr:X N=YI 4 1 (.slice (some ⟨z,0,none⟩) n n) n ((Nd s.V).map Value.bool):=(hZk N HN.o Ze).trans Zq;refine (hh.sweep2 hX VV (r:=N) ZO Ze hxr HV.o.2.1 (by rw [Nd,YG,HV.o.1]; exact hn100) (vs:=vs) (p:=p)).mono ?_;rintro e w' ⟨b2,cp2,rfl,g1,g2⟩;rw [HV.o.2.2.2.2.1,HV.o.2.2.2.2.2] at g1 ⊢;have g3:=WE _ _ _ _ g1 P6 rfl rfl;refine ⟨b2,cp2,rfl,?_,g2⟩;rw [show (Nd s.V).length=n by rw [Nd,YG,HV.o.1]] at g3;exact Eg.pick (m:=2) g3 HN.o (fun k h1 h2=>by rw [Zz Ze,Zz Ze,Zz Ze]) Zq)
   clear HE h5 h6;go_wp2_with fail;refine HS.o.mono ?_;rintro e w4 ⟨b2,c2,rfl,g1,g2⟩;have G:=Za (Zn g1 (ZY HZ.o g2));clear g1 g2 HS;go_wp2_with fail;go_ret2;exact ⟨b2,c2,rfl,G.o.1,by rw [HZZ.o]; exact G.o.2⟩
end
end
section
open Go Go.RowKit Go.Deep
section
variable {N:Nat} {w0:Fb} {w w' w1:Zc} {c:Nat->Int} {a:Pl} {q:Ql} {X Z:Nat->Zc->(Nat->Prop)->Prop} {s s':Sg} {L L':List QW}
theorem lY (h:Eg N w0 w c a q Z s L){mo:Int}(h0:0<=mo)(hl:s.mg.length<=100000){k:Nat}(hk:min mo.toNat s.mg.length=k) :
  Zv Zb 272 #[.pointer (some ⟨q.d,0,none⟩),.int .i64 mo] w fun e w'=> ∃v,e= .returned v/\Eg (N+1) w0 w' c a q (ZG Z N (YI 116 2 v k (Jo (s.mg.take k)))) { s with mg:=s.mg.drop k} L/\w.heap.size<=w'.heap.size:=by
 have hN:=h.low;have HG:=Za h.mlen;have Eu:=di k Ze w;obtain ⟨n,hn⟩:=ZT (s.mg.length);rw [hn] at hl hk HG;have mD:(if(n:Int)< mo then(n:Int) else mo)=(k:Int):=by split <;> omega
 have ee:min mo (n:Int)=(k:Int):=Ze;have HA:Zl ((s.mg.take k).length=k):=Za FN;have H0:Zl (Eg (N+1) w0 (w.alloc (.cells (Jo (ZP k ((0:Int),(0:Int)))).toArray 116)) c a q (ZG Z N (Y5 w.heap.size 116 (Jo (J6 (s.mg.take k) ((0:Int),(0:Int)) 0)).toArray)) { s with mg:=s.mg.drop 0} L):=Za (by
  have:=h.box (Jo (ZP k ((0:Int),(0:Int)))).toArray 116;rw [MD,HA.o];exact this)
 have oG:Zl (w.heap.size<=(w.alloc (.cells (Jo (ZP k ((0:Int),(0:Int)))).toArray 116)).heap.size):=Za ZE;have HN:=Za hN;have HV:=Za (Zn hn (Zn hk hl));have xl:k<=100000:=Ze;clear h hn hN h0 hl hk;go_enter func272,ntmps272;go_wp2_with fail;refine HG.o.mono ?_;rintro e w2 ⟨rfl,rfl⟩;clear HG;go_wp2_with fail;clear Eu mD ee;generalize hz:w.heap.size=z at*;have HZZ:=Za hz;clear hz;generalize w.alloc (.cells (Jo (ZP k ((0:Int),(0:Int)))).toArray 116)=W at*;go_loopw [14] (fun s14 wr=> ∃(j:Nat),j<=k/\s14= .int .i64 j/\Zl (Eg (N+1) w0 wr c a q (ZG Z N (Y5 z 116 (Jo (J6 (s.mg.take k) ((0:Int),(0:Int)) j)).toArray)) { s with mg:=s.mg.drop j} L)/\Zl (z<=wr.heap.size)) (fun s14 _=>k -(intOf s14).toNat)
 case atStart=>exact ⟨0,by omega,rfl,H0,oG⟩
 case round=>
  obtain ⟨j,hj,rfl,HE,HZ⟩:=hrel
  by_cases XV:j < k
  ·obtain ⟨p,hp⟩ : ∃p,s.mg[j]?=some p:=⟨_,Zg (by rw [HV.o.1]; have:=HV.o.2.1; omega)⟩;have HP:Zl ((s.mg.take k)[j]?=some p):=Za kN;have HD:Zl (s.mg.drop j=p::s.mg.drop (j+1)):=Za (Kd .. |>.trans (by rw [hp]; rfl));have HG:=Za (HE.o.mpop (p:=p) (rest:=s.mg.drop (j+1)) HD.o);clear hp;go_wp2_with fail;refine HG.o.mono ?_;rintro e w2 ⟨rfl,h2,hle⟩;have hB:=h2.blkAt (r:=N) HN.o Ze Zq;have GR:=h2.mstore (r:=N) HN.o Ze Zq HP.o;rw [Xx] at GR;have HST:=Za GR;have HZ2:Zl (z<=(w2.setCells z (j*2) (Yx p).toList).heap.size):=Za (by
    have h3:=(Q6 (Yx p).toList (j*2) w2 (Zx.refl (fun i=>i=z) w2) (.inl rfl)).size;have:=HZ.o;omega)
   clear h2 hle hB GR HG HE HZ HD HP;go_wp2_with (first | (refine wpList_store_mid rfl 116 _ _ rfl z (j*2) (Yx p) rfl rfl HST.o.1 Le (Ug p) ?_));have H4:=Za HST.o.2;clear HST;generalize w2.setCells z (j*2) (Yx p).toList=W4 at*;exact Zit
  ·obtain rfl:j=k:=Ze;clear XV;have XV: ¬j < j:=Ze;have H7:Zl (Eg (N+1) w0 wr c a q (ZG Z N (YI 116 2 (.slice (some ⟨z,0,none⟩) j j) j (Jo (s.mg.take j)))) { s with mg:=s.mg.drop j} L):=Za (by
    have h1:=HE.o;have hA:=HA.o;have h3:J6 (s.mg.take j) ((0:Int),(0:Int)) j=s.mg.take j:=by
     have:=OR (A:=s.mg.take j) (z:=((0:Int),(0:Int)));rwa [hA] at this
    rw [h3] at h1;have h2:=h1.torow (r:=N) (k:=2) (n:=j) HN.o Ze Zq (by rw [Ft,hA]) kH;rwa [Xx] at h2)
   exact tP
theorem qe (h:Eg N w0 w c a q Z s L){mo:Int}(h0:0<=mo)(hl:s.mg.length<=100000){k:Nat}(hk:min mo.toNat s.mg.length=k) :
  Zv Zb 241 #[.pointer (some ⟨q.e,27,none⟩),.int .i64 mo] w fun e w'=> ∃v,e= .returned v/\Eg (N+1) w0 w' c a q (ZG Z N (YI 116 2 v k (Jo (s.mg.take k)))) { s with mg:=s.mg.drop k} L/\w.heap.size<=w'.heap.size:=by
 have y0:=QS h.blk 28;have H:=Za (lY h h0 hl hk);clear h h0 hl hk;go_enter func241,ntmps241;exact Zif
theorem lZ (h:Eg N w0 w c a q Z s L){mo:Int}(h0:0<=mo)(hl:s.pt.length<=100000){k:Nat}(hk:min mo.toNat s.pt.length=k) :
  Zv Zb 243 #[.pointer (some ⟨q.q,0,none⟩),.int .i64 mo] w fun e w'=> ∃v,e= .returned v/\Eg (N+1) w0 w' c a q (ZG Z N (YI 119 2 v k (Ja (s.pt.take k)))) { s with pt:=s.pt.drop k} L/\w.heap.size<=w'.heap.size:=by
 have hN:=h.low;have HG:=Za h.tlen;have Eu:=dj k Ze w;obtain ⟨n,hn⟩:=ZT (s.pt.length);rw [hn] at hl hk HG;have mD:(if(n:Int)< mo then(n:Int) else mo)=(k:Int):=by split <;> omega
 have ee:min mo (n:Int)=(k:Int):=Ze;have HA:Zl ((s.pt.take k).length=k):=Za FN;have H0:Zl (Eg (N+1) w0 (w.alloc (.cells (Ja (ZP k Mm)).toArray 119)) c a q (ZG Z N (Y5 w.heap.size 119 (Ja (J6 (s.pt.take k) Mm 0)).toArray)) { s with pt:=s.pt.drop 0} L):=Za (by
  have:=h.box (Ja (ZP k Mm)).toArray 119;rw [MD,HA.o];exact this)
 have oG:Zl (w.heap.size<=(w.alloc (.cells (Ja (ZP k Mm)).toArray 119)).heap.size):=Za ZE;have HN:=Za hN;have HV:=Za (Zn hn (Zn hk hl));have xl:k<=100000:=Ze;clear h hn hN h0 hl hk;go_enter func243,ntmps243;go_wp2_with fail;refine HG.o.mono ?_;rintro e w2 ⟨rfl,rfl⟩;clear HG;go_wp2_with fail;clear Eu mD ee;generalize hz:w.heap.size=z at*;have HZZ:=Za hz;clear hz;generalize w.alloc (.cells (Ja (ZP k Mm)).toArray 119)=W at*;go_loopw [14] (fun s14 wr=> ∃(j:Nat),j<=k/\s14= .int .i64 j/\Zl (Eg (N+1) w0 wr c a q (ZG Z N (Y5 z 119 (Ja (J6 (s.pt.take k) Mm j)).toArray)) { s with pt:=s.pt.drop j} L)/\Zl (z<=wr.heap.size)) (fun s14 _=>k -(intOf s14).toNat)
 case atStart=>exact ⟨0,by omega,rfl,H0,oG⟩
 case round=>
  obtain ⟨j,hj,rfl,HE,HZ⟩:=hrel
  by_cases XV:j < k
  ·obtain ⟨p,hp⟩ : ∃p,s.pt[j]?=some p:=⟨_,Zg (by rw [HV.o.1]; have:=HV.o.2.1; omega)⟩;have HP:Zl ((s.pt.take k)[j]?=some p):=Za kN;have HD:Zl (s.pt.drop j=p::s.pt.drop (j+1)):=Za (Kd .. |>.trans (by rw [hp]; rfl));have HG:=Za (HE.o.tpop (p:=p) (rest:=s.pt.drop (j+1)) HD.o);clear hp;go_wp2_with fail;refine HG.o.mono ?_;rintro e w2 ⟨rfl,h2,hle⟩;have hB:=h2.blkAt (r:=N) HN.o Ze Zq;have GR:=h2.tstore (r:=N) HN.o Ze Zq HP.o;rw [Xx] at GR;have HST:=Za GR;have HZ2:Zl (z<=(w2.setCells z (j*2) (ZB p).toList).heap.size):=Za (by
    have h3:=(Q6 (ZB p).toList (j*2) w2 (Zx.refl (fun i=>i=z) w2) (.inl rfl)).size;have:=HZ.o;omega)
   clear h2 hle hB GR HG HE HZ HD HP;go_wp2_with (first | (refine wpList_store_mid rfl 119 _ _ rfl z (j*2) (ZB p) rfl rfl HST.o.1 Jb (Kf p) ?_));have H4:=Za HST.o.2;clear HST;generalize w2.setCells z (j*2) (ZB p).toList=W4 at*;exact Zit
  ·obtain rfl:j=k:=Ze;clear XV;have XV: ¬j < j:=Ze;have H7:Zl (Eg (N+1) w0 wr c a q (ZG Z N (YI 119 2 (.slice (some ⟨z,0,none⟩) j j) j (Ja (s.pt.take j)))) { s with pt:=s.pt.drop j} L):=Za (by
    have h1:=HE.o;have hA:=HA.o;have h3:J6 (s.pt.take j) Mm j=s.pt.take j:=by
     have:=OR (A:=s.pt.take j) (z:=Mm);rwa [hA] at this
    rw [h3] at h1;have h2:=h1.torow (r:=N) (k:=2) (n:=j) HN.o Ze Zq (by rw [Fz,hA]) kH;rwa [Xx] at h2)
   exact tP
theorem qf (h:Eg N w0 w c a q Z s L){mo:Int}(h0:0<=mo)(hl:s.pt.length<=100000){k:Nat}(hk:min mo.toNat s.pt.length=k) :
  Zv Zb 206 #[.pointer (some ⟨q.e,27,none⟩),.int .i64 mo] w fun e w'=> ∃v,e= .returned v/\Eg (N+1) w0 w' c a q (ZG Z N (YI 119 2 v k (Ja (s.pt.take k)))) { s with pt:=s.pt.drop k} L/\w.heap.size<=w'.heap.size:=by
 have y0:=QS h.blk 29;have H:=Za (lZ h h0 hl hk);clear h h0 hl hk;go_enter func206,ntmps206;exact Zif
end
end
section
open Go Go.RowKit Go.Deep
section
variable {P:Program} {ops:Array Oper} {rest:List Oper} {op:Oper} {a:Act}
theorem MO {C:Zc->Prop}{Qa:Act->Prop}(ty:TypeId)(x:Operand)(b o:Nat)(cs:List Value)(d:TypeDesc)(hw:XJ op (yielded ops a.tmps)=true)(ho:op.op= .load ty x)(hx:a.eval x= .pointer (some ⟨b,o,none⟩))
  (hC: ∀w,C w->w.rangeAt b o cs) (hu:P.underlying ty=some d) (hd:d.isRow=true) (hi:(P.info? ty).map (·.size)=some cs.length)
  (h:ZZ P ops C Qa rest (a.put op.dst (.agg cs.toArray))) :ZZ P ops C Qa (op::rest) a:=by
 unfold ZZ;rw [if_pos hw];refine ⟨_,fun w hc=>?_,h⟩;unfold Oper.quietAt execOp;simp only [ho,hx,Instr.loadAt,Instr.sureAddr,Sem.run_bind,Sem.run_pure,Result.andThen_ok,run_loadVar_mid w b o ty cs d (hC w hc) hu hd hi];exact DF
theorem PW {C:Zc->Prop}{Qa:Act->Prop}(ty:TypeId)(x:Operand)(b o:Nat)(cs:Array Value)(d:TypeDesc)(hw:XJ op (yielded ops a.tmps)=true)(ho:op.op= .load ty x)(hx:a.eval x= .pointer (some ⟨b,o,none⟩))
  (hC: ∀w,C w->w.rangeAt b o cs.toList) (hu:P.underlying ty=some d) (hd:d.isRow=true) (hi:(P.info? ty).map (·.size)=some cs.size)
  (h:ZZ P ops C Qa rest (a.put op.dst (.agg cs))) :ZZ P ops C Qa (op::rest) a:=
 MO ty x b o cs.toList d hw ho hx hC hu hd hi h
end
theorem eZ (c:Nat->Int)(a:Pl)(q:Ql) :Uh c a q=Zi c++ #[.pointer (some ⟨a.c,0,none⟩),.pointer (some ⟨a.r,0,none⟩),.pointer (some ⟨a.l,0,none⟩),.pointer (some ⟨a.k,0,none⟩),.pointer (some ⟨a.n,0,none⟩),.pointer (some ⟨a.m,0,none⟩),.pointer (some ⟨a.u,0,none⟩),.pointer (some ⟨a.p,0,none⟩),.pointer (some ⟨q.d,0,none⟩),.pointer (some ⟨q.q,0,none⟩)]:=rfl
theorem RK {w:Zc}{c:Nat->Int}{a:Pl}{q:Ql}(h:Zu w q.e 102 (Uh c a q)) :w.rangeAt q.e 0 (Zi c).toList:=fun j v hj=>by
 have hl:j < (Zi c).size:=by have:=(Zj.1 hj).1; simpa using this
 rw [h.cell,Nat.zero_add,eZ,Array.getElem?_append_left hl,<-Array.getElem?_toList];exact hj
section
variable {N:Nat} {w0:Fb} {w:Zc} {c:Nat->Int} {a:Pl} {q:Ql} {Z:Nat->Zc->(Nat->Prop)->Prop} {s:Sg} {L:List QW} {b:Nat} {o:Oq}
theorem Eg.x0 (h:Eg N w0 w c a q Z s L) :w.cell? ⟨q.e,0,none⟩=some (.int .i64 (c 0)):=h.blk.cell 0
theorem Eg.x2 (h:Eg N w0 w c a q Z s L) :w.cell? ⟨q.e,2,none⟩=some (.int .u64 (c 2)):=h.blk.cell 2
theorem Eg.x3 (h:Eg N w0 w c a q Z s L) :w.cell? ⟨q.e,3,none⟩=some (.int .u64 (c 3)):=h.blk.cell 3
theorem Eg.x16 (h:Eg N w0 w c a q Z s L) :w.cell? ⟨q.e,16,none⟩=some (.int .i64 (c 16)):=h.blk.cell 16
theorem Eg.x17 (h:Eg N w0 w c a q Z s L) :w.cell? ⟨q.e,17,none⟩=some (.int .i64 (c 17)):=h.blk.cell 17
theorem Eg.x21 (h:Eg N w0 w c a q Z s L) :w.cell? ⟨q.e,21,none⟩=some (.pointer (some ⟨a.r,0,none⟩)):=h.blk.cell 21
theorem Eg.x22 (h:Eg N w0 w c a q Z s L) :w.cell? ⟨q.e,22,none⟩=some (.pointer (some ⟨a.l,0,none⟩)):=h.blk.cell 22
theorem Eg.x24 (h:Eg N w0 w c a q Z s L) :w.cell? ⟨q.e,24,none⟩=some (.pointer (some ⟨a.n,0,none⟩)):=h.blk.cell 24
theorem Eg.x27 (h:Eg N w0 w c a q Z s L) :w.cell? ⟨q.e,27,none⟩=some (.pointer (some ⟨a.p,0,none⟩)):=h.blk.cell 27
theorem Of.k0 (h:Of N w0 w c a q Z s L b o)(hN:11<=N) :w.cell? ⟨b,0,none⟩=some (.int .i64 o.kd):=(h.op hN).cell 0
theorem Of.k1 (h:Of N w0 w c a q Z s L b o)(hN:11<=N) :w.cell? ⟨b,1,none⟩=some (.int .i64 o.ix):=(h.op hN).cell 1
theorem Of.k2 (h:Of N w0 w c a q Z s L b o)(hN:11<=N) :w.cell? ⟨b,2,none⟩=some (.int .i64 o.tg):=(h.op hN).cell 2
theorem Of.k3 (h:Of N w0 w c a q Z s L b o)(hN:11<=N) :w.cell? ⟨b,3,none⟩=some (.int .u64 o.am):=(h.op hN).cell 3
end
def rcP (r:Rp) :Rc:=⟨r.kd,r.cd,r.ix,r.bl,r.ep,r.dl,none,0,0,none,0,0,r.vs⟩
def vH (N:Nat)(w0:Fb)(c:Nat->Int)(a:Pl)(q:Ql)(Z:Nat->Zc->(Nat->Prop)->Prop)(x:Rp × Sg)(L:List QW)(e:Ending)(w:Zc) :Prop:=e= .returned (.agg (Z9 (rcP x.1)))/\Eg N w0 w c a q Z x.2 L
end
section
open Go Go.RowKit Go.Deep
theorem Nv {c:Nat->Int}{s:Sg}{o:Oq}{k:Int}(h:Rm c s o.am=k)(hk:k≠0) :Ha c s o=(GI s o.kd k,s):=by unfold Ha; rw [h,if_neg hk]
theorem pW {c:Nat->Int}{s:Sg}{o:Oq}(h:Rm c s o.am=0) :Ha c s o=(F8 s o.kd s.V.length (-1),Hc s o.am):=by unfold Ha; rw [if_pos h]
theorem Inv.fits06 {c:Nat->Int}{k:Nat}{s:Sg}(hc:GE c)(h:Inv c k s) :Jt s.D s.P s.B (c 4):=by
 have h0:=h.total hc;have h1:=h.sum;have h2:=h.p0;have h3:=h.b0;have h4:=h.d1;have h5:=h.cap;have h6:=hc.a4;have h7:=hc.a2;have h8:=hc.a23;have h9:=hc.a3;unfold Jt;omega
section
variable {N:Nat} {w0:Fb} {w w' w1:Zc} {c:Nat->Int} {a:Pl} {q:Ql} {Z:Nat->Zc->(Nat->Prop)->Prop} {s s':Sg} {L L':List QW} {k:Nat}
theorem p7 (hc:GE c)(hi:Inv c k s)(hk:k<=1000000)(h:Eg N w0 w c a q Z s L)(o:Oq)(ho:GB o) :Zv Zb 84 #[.pointer (some ⟨q.e,0,none⟩),.agg (ZX o)] w (vH N w0 c a q Z (Ha c s o) L):=by
 have hN:=h.low;have hO:=Ds h o;have HT:=Za (hi.tm hc hk);have HN:=Za hN;have HC:=Za hc;have HI:=Za hi;have HF:=Za ho;clear hc hi ho hN h;go_enter func84,ntmps84;go_upto_region 1 with (fail);generalize hW:(w.alloc (.cells (ZX o) 49)).alloc (.cells _ 53)=W;have eW:(w.alloc (.cells (ZX o) 49)).alloc (.cells (Z9 Dd) 53)=W:=hW;rw [eW] at hO;generalize w.heap.size=b at*;have k3:=Of.k3 hO HN.o;have x2:=Eg.x2 hO;have x3:=Eg.x3 hO;have HO:=Za hO;clear hW eW hO
 by_cases h1:o.am < c 2
 ·have HE:Zl (Ha c s o=(GI s o.kd 3,s)):=Za (Nv (by unfold Rm; exact if_pos (.inl h1)) YW);clear HI HF HC;go_quiet (fail);have HD:Zl (Of N w0 (W.drewN nq) c a q Z s L b o):=Za (J4 HO.o nq);clear HO k3 x2 x3;generalize W.drewN nq=V at*;exact Om
 by_cases h2:c 3 < o.am
 ·have HE:Zl (Ha c s o=(GI s o.kd 3,s)):=Za (Nv (by unfold Rm; exact if_pos (.inr h2)) YW);clear HI HF HC;have d1:decide (o.am < c 2)=false:=decide_eq_false h1;have d2:decide (c 3 < o.am)=true:=decide_eq_true h2;clear h1 h2;go_quiet (fail);have Wo:Zl (Of N w0 (W.drewN nq) c a q Z s L b o):=Za (J4 HO.o nq);generalize W.drewN nq=W1 at*;have k3:=Of.k3 Wo.o HN.o;have x2:=Eg.x2 Wo.o;have x3:=Eg.x3 Wo.o;go_wp2_with fail;go_quiet (fail);have HD:Zl (Of N w0 (W1.drewN nq) c a q Z s L b o):=Za (J4 Wo.o nq);clear HO Wo k3 x2 x3;generalize W1.drewN nq=V at*;exact Om
 have d1:decide (o.am < c 2)=false:=decide_eq_false h1;have d2:decide (c 3 < o.am)=false:=decide_eq_false h2;have L1: ¬(o.am < c 2\/c 3 < o.am):=by rintro (h | h)<;> omega
 clear h1 h2;go_quiet (fail);have Wo:Zl (Of N w0 (W.drewN nq) c a q Z s L b o):=Za (J4 HO.o nq);clear HO k3 x2 x3;generalize W.drewN nq=W1 at*;have k3:=Of.k3 Wo.o HN.o;have x2:=Eg.x2 Wo.o;have x3:=Eg.x3 Wo.o;go_wp2_with fail;go_quiet (fail);have Ox:Zl (Of N w0 (W1.drewN nq) c a q Z s L b o):=Za (J4 Wo.o nq);clear Wo k3 x2 x3 d1 d2;generalize W1.drewN nq=W2 at*;go_wp2_with fail;have x21:=Eg.x21 Ox.o;have x0:=Eg.x0 Ox.o;have HLn:Zl (∀m,Zv Zb 120 #[.pointer (some ⟨a.r,0,none⟩)] (W2.drewN m) fun e w'=>e= .returned (.int .i64 s.V.length)/\W2.drewN m=w'):=Za (fun m=>by
  obtain ⟨X,hX,VV,hh,_⟩:=Eg.open (J4 Ox.o m);exact hh.len VV)
 obtain ⟨n,hn⟩:=ZT (s.V.length);rw [hn] at HLn;have HNn:=Za hn
 by_cases h3:(n:Int)=c 0
 ·have HE:Zl (Ha c s o=(GI s o.kd 5,s)):=Za (Nv (by unfold Rm; rw [if_neg L1,if_pos (by rw [hn]; omega)]) YW);have d3:((n:Int)==c 0)=true:=by simp [h3]
  clear h3 L1 HI HF HC hn;go_quiet ((go_at_call 120; exact Bb (HLn.o _)));have HD:Zl (Of N w0 (W2.drewN nq) c a q Z s L b o):=Za (J4 Ox.o nq);clear Ox x21 x0 HLn HNn;generalize W2.drewN nq=V at*;exact Om
 have d3:((n:Int)==c 0)=false:=by simp [h3]
 have h3': ¬c 0<=(s.V.length:Int):=by have:=HI.o.len; rw [hn] at this ⊢; omega
 clear h3 hn;go_quiet ((go_at_call 120; exact Bb (HLn.o _)));have Wp:Zl (Of N w0 (W2.drewN nq) c a q Z s L b o):=Za (J4 Ox.o nq);clear Ox x21 x0 HLn d3;generalize W2.drewN nq=W3 at*;have x27:=Eg.x27 Wp.o;have HFr:Zl (Xb 121 #[.pointer (some ⟨a.p,0,none⟩)] W3 (.int .i64 (((c 1).toNat - s.pd.length:Nat) :Int))):=Za (by
  obtain ⟨X,hX,VV,hh,_⟩:=Eg.open Wp.o;exact hh.pfree VV)
 obtain ⟨f,hf⟩ : ∃f:Nat,(c 1).toNat - s.pd.length=f:=⟨_,rfl⟩;rw [hf] at HFr
 by_cases h4:c 1<=(s.pd.length:Int)
 ·have HE:Zl (Ha c s o=(GI s o.kd 6,s)):=Za (Nv (by unfold Rm; rw [if_neg L1,if_neg h3',if_pos h4]) YW);obtain rfl:f=0:=Ze;clear h4 h3' L1 HI HF HC hf;go_wp2_with fail;refine HFr.o.mono ?_;rintro e w' ⟨rfl,m,rfl⟩;have HD:Zl (Of N w0 (W3.drewN m) c a q Z s L b o):=Za (J4 Wp.o m);clear Wp x27 HFr HNn;generalize W3.drewN m=V at*;exact Om
 have hfp:((f:Int)==0)=false:=Xl;clear hf;go_wp2_with fail;refine HFr.o.mono ?_;rintro e w' ⟨rfl,m,rfl⟩;have Ri:Zl (Of N w0 (W3.drewN m) c a q Z s L b o):=Za (J4 Wp.o m);clear Wp x27 HFr;generalize W3.drewN m=W4 at*;have h4': ¬c 1<=(s.pd.length:Int):=Ze;have fa:=HF.o.2.2.2;have a0:0<=o.am:=(bounds_u64 fa).1;have a1:o.am<=18446744073709551615:=(bounds_u64 fa).2;have hF6:Jt s.D s.P s.B (c 4):=Inv.fits06 HC.o HI.o;go_wp2_with fail;have hOD:Of N w0 W4.drew c a q Z s L b o:=Eg.drew Ri.o
 by_cases h5:c 4 -(s.D - s.P - s.B)< o.am\/(o.am<=c 4 -(s.D - s.P - s.B)/\18446744073709551615 < s.D+o.am)
 ·obtain ⟨kk,qZ⟩ : ∃kk:Int,(if c 4 -(s.D - s.P - s.B)< o.am then 4 else 10)=kk:=⟨_,rfl⟩;have HE:Zl (Ha c s o=(GI s o.kd kk,s)):=Za (Nv (by
   unfold Rm;rw [if_neg L1,if_neg Ze,if_neg Ze,<-qZ]
   rcases h5 with h5 | ⟨h5,h6⟩
   ·rw [if_pos h5,if_pos h5]
   ·rw [if_neg Ze,if_pos h6,if_neg Ze]) (by rw [<-qZ]; split <;> decide))
  have dk:(kk != 0)=true:=by rw [<-qZ]; split <;> rfl
  have HA:=Za (wG (N:=N+2) hOD hF6 a0 a1 h5);rw [qZ] at HA;have HO5:=Za hOD;clear L1 h3' h4' h4 h5 fa a0 a1 hF6 qZ HI HF HC hfp HNn hOD;refine Mz (fun w'=>Zu w' b 49 (ZX o)) 10 5 [0,1,2,3,4] (?_) ?_
  ·exact HO5.o.op HN.o
  refine JL ?_;refine Ol ?_;refine Bi ?_;refine Vk _ ⟨b,3,none⟩ (.int .u64 o.am) (fun w h=>h.cell 3) ?_;refine X5 ?_;refine XK ?_;clear Ri;generalize W4.drew=V at*;refine DM ?_;refine Q3 ?_;refine JC #[.pointer (some ⟨q.e,21,none⟩),.int .u64 o.am] call122 ((HA.o).mono ?_);rintro e w2 ⟨rfl,hb⟩;have HD:Zl (Of N w0 w2 c a q Z s L b o):=Za (Eg.below HO5.o hb);refine ⟨_,rfl,HD.o.op HN.o,?_⟩;clear hb HA HO5;refine Q3 ?_;refine SR (fun w'=>Zu w' b 49 (ZX o)) (m:=4) (f:=0) [6,7,8,9] (?_) ?_
  ·exact HD.o.op HN.o
  refine JL ?_;refine He ?_;refine Bi ?_;refine XK ?_;refine GO ?_;refine ⟨by kernel_rfl,?_⟩;refine Mh ?_;go_wp2_with fail;refine Gy ?_;exact Om
 ·have HE:Zl (Ha c s o=(F8 s o.kd s.V.length (-1),Hc s o.am)):=Za (pW (by
   unfold Rm;rw [if_neg L1,if_neg Ze,if_neg Ze,if_neg Ze,if_neg Ze]))
  have HA:=Za (Zj4 (N:=N+2) hOD hF6 a0 a1 Ze Ze Ze (by have:=HI.o.total HC.o; have:=HI.o.sum; have:=HI.o.p0; have:=HI.o.b0; omega));have HT2:Zl (Tm c (Hc s o.am)):=Za ⟨HT.o.b0,HT.o.b1,HT.o.l,HT.o.q⟩;have HO5:=Za hOD;have HPl:Zl ((s.pd.length:Int)< c 1):=Za Ze;rw [HNn.o] at HA;clear L1 h3' h4' h4 h5 fa a0 a1 hF6 HI HF HC hfp hOD;refine Mz (fun w'=>Zu w' b 49 (ZX o)) 10 5 [0,1,2,3,4] (?_) ?_
  ·exact HO5.o.op HN.o
  refine JL ?_;refine Ol ?_;refine Bi ?_;refine Vk _ ⟨b,3,none⟩ (.int .u64 o.am) (fun w h=>h.cell 3) ?_;refine X5 ?_;refine XK ?_;clear Ri;generalize W4.drew=V at*;refine DM ?_;refine Q3 ?_;refine JC #[.pointer (some ⟨q.e,21,none⟩),.int .u64 o.am] call122 ((HA.o).mono ?_);rintro e w2 ⟨rfl,hb⟩;have HD:Zl (Of N w0 w2 c a q Z { s with V:=s.V++[Fu o.am],D:=s.D+o.am} L b o):=Za hb;refine ⟨_,rfl,HD.o.op HN.o,?_⟩;clear hb HA HO5;refine Q3 ?_;refine SR (fun w'=>Zu w' b 49 (ZX o)) (m:=4) (f:=0) [6,7,8,9] (?_) ?_
  ·exact HD.o.op HN.o
  refine JL ?_;refine He ?_;refine Bi ?_;refine XK ?_;refine GO ?_;refine ⟨by kernel_rfl,?_⟩;refine Mh ?_;go_wp2_with fail;refine Gy ?_;have x27:=Eg.x27 HD.o;have WY:Zl (Zv Zb 123 #[.pointer (some ⟨a.p,0,none⟩),.slice (some ⟨w2.heap.size,0,none⟩) 1 1] (w2.alloc (.cells #[.int .i64 (n:Int)] 3)) fun e w'=>e= .returned (.int .i64 1)/\Of N w0 w' c a q Z (Hc s o.am) L b o):=Za (by
   obtain ⟨X,hX,VV,hh,hK,_⟩:=Eg.open HD.o;refine (hh.ppush hX VV (x:=(n:Int)) HPl.o).mono fun e w' ⟨he,h1,_⟩=>⟨he,?_⟩
   have h2:=hK _ _ _ h1 rfl rfl;unfold Hc;rw [HNn.o];exact h2)
  clear HD;go_wp2_with fail;refine WY.o.mono ?_;rintro e w5 ⟨rfl,h5⟩;have HD:=Za h5;clear h5 WY x27;rw [HNn.o] at HE;exact jm
end
end
section
open Go Go.RowKit Go.Deep
theorem tx {V:List ZN}{n:Nat}{v:ZN}(h:V[n]?=some v) :wV V (n:Int)=v.bal:=by
 have hl:=(Zj.1 h).1;unfold wV Ks;rw [if_pos ⟨by omega,by unfold QN; rw [YG]; omega⟩,Int.toNat_natCast,Zm];unfold QN;rw [ZH,h]; rfl
theorem AY: ∀(I:List Int) (V:List ZN),(∀v ∈ V,Yh v)->I.Nodup->(∀i ∈ I,∃n:Nat,i=(n:Int)/\n < V.length)->XW (I.map (wV V)) I.length<=Zw V
 | [],V,hf,_,_=>Jz hf
 | i::I,V,hf,hn,hI=>by
  obtain ⟨h1,h2⟩:=List.nodup_cons.1 hn;obtain ⟨n,rfl,hnl⟩:=hI i ZE;have hv:V[n]?=some (V[n]):=Zg hnl;generalize V[n]=v at hv;have xk:=hf v (Xi hv);have hf': ∀x ∈ V.set n { v with bal:=0},Yh x:=J9 hf ⟨rfl,xk.2⟩;have ih:=AY I (V.set n { v with bal:=0}) hf' h2 (fun j hj=>by
   obtain ⟨m,e,hm⟩:=hI j LS;exact ⟨m,e,by rw [List.length_set]; exact hm⟩)
  have hm:I.map (wV (V.set n { v with bal:=0}))=I.map (wV V):=List.map_congr_left fun j hj=>by
   obtain ⟨m,rfl,hm⟩:=hI j LS;have Ka:n≠m:=fun e=>h1 (by rw [e]; exact hj)
   have hu:V[m]?=some (V[m]):=Zg hm;rw [tx hu,tx (v:=V[m]) (by rw [List.getElem?_set_ne Ka]; exact hu)]
  rw [hm,JK hv] at ih;rw [List.map_cons,List.length_cons,Be,tx hv];simp only at ih;omega
theorem OE (F W:List Int)(cl:Int) :(Ko F W cl).Sublist (F++W):=by
 unfold Ko
 split
 ·exact List.sublist_append_left _ _
 ·split
  ·exact List.Sublist.refl _
  ·exact List.nil_sublist _
section
variable {N:Nat} {w0:Fb} {w w' w1:Zc} {c:Nat->Int} {a:Pl} {q:Ql} {Z:Nat->Zc->(Nat->Prop)->Prop} {s s':Sg} {L L':List QW} {k:Nat}
theorem Inv.ahead (hc:GE c)(h:Inv c k s)(cl:Int) :VU ((Ko s.F s.W cl).map (wV s.V)) (Ko s.F s.W cl).length=true/\BH (BO ((Ko s.F s.W cl).map (wV s.V)) (Ko s.F s.W cl).length):=by
 have h1:=AY (Ko s.F s.W cl) s.V h.fits (h.lnn.sublist (OE _ _ _)) (fun i hi=>by
  obtain ⟨m,u,e,hu,_⟩:=h.lnx i ((OE _ _ _).subset hi);exact ⟨m,e,(Zj.1 hu).1⟩)
 have h2:=h.total hc;have h3:0<=XW ((Ko s.F s.W cl).map (wV s.V)) (Ko s.F s.W cl).length:=BY (fun i=>by
  rw [Zm,ZH]
  cases (Ko s.F s.W cl)[i]? with
  | none=>exact Int.le_refl _
  | some x=>exact A9 h.fits x) _
 have h4:XW ((Ko s.F s.W cl).map (wV s.V)) (Ko s.F s.W cl).length<=18446744073709551615:=Ze;obtain ⟨h5,h6⟩:=Nk h4;exact ⟨h5,by rw [h6]; exact ⟨h3,h4⟩⟩
theorem MK (x:Option Int) :Kv x= .tuple #[.int .i64 (x.getD 0),.bool x.isSome]:=by cases x <;> rfl
theorem Zck (hc:GE c)(h:Inv c k s)(cl:Int)(v:ZN) :gN (BO ((Ko s.F s.W cl).map (wV s.V)) (Ko s.F s.W cl).length) v.bal c s.ep=SD c s cl v:=by
 rw [xX hc.g];unfold SD;rw [if_pos (h.ahead hc cl).1]
theorem qi (hc:GE c)(hi:Inv c k s)(hk:k<=1000000)(h:Eg N w0 w c a q Z s L){v:ZN}(hv:Yh v)(cl:Int) :
  Zv Zb 173 #[.pointer (some ⟨q.e,0,none⟩),.agg (Zd v),.int .i64 cl] w fun e w'=>e= .returned (Kv (SD c s cl v))/\Eg N w0 w' c a q Z s L:=by
 have hN:=h.low;have h1:=h.box (Zd v) 68;have hB0:Zl (Zu (w.alloc (.cells (Zd v) 68)) w.heap.size 68 (Zd v)):=Za (Zu.new _ _ _);obtain ⟨t0,t1,t2,t3⟩:=hi.tm hc hk;have hln:s.V.length<=4096:=by have:=hi.len; have:=hc.g.cap1; omega
 have H1:=Za h1;have HN:=Za hN;obtain ⟨A,hA⟩:=ZT (Ko s.F s.W cl);obtain ⟨x,hx⟩:=ZT (BO (A.map (wV s.V)) A.length);have Zgi:BH x:=by have:=(hi.ahead hc cl).2; rw [hA,hx] at this; exact this
 have ZcI:=Zck hc hi cl v;rw [hA,hx] at ZcI;have HDue:=Za ZcI;have HP:=Za (fun w=>nj hc.g Zgi (show BH v.bal from bounds_u64 hv.1) s.ep w);have z8:A.length<=100000:=by
  have h3:=(OE s.F s.W cl).length_le;rw [hA,List.length_append] at h3;have:=hi.fl; have:=hi.wl; have:=hc.q1; omega
 have HFi:=Za hi.fits;have HX:=Za (Zn hA (Zn hx (Zn z8 hln)));have HT:=Za (Zn t0 (Zn t1 (Zn t2 t3)));clear hc hi hk h h1 hv hN hA hx Zgi ZcI z8 hln t0 t1 t2 t3;go_enter func173,ntmps173;go_upto_region 1 with (fail);generalize w.alloc (.cells (Zd v) 68)=W at*;generalize hz:w.heap.size=b at*;clear hz;have vq:=Za (zT (Eg.drew H1.o) (by have:=HX.o.2.2.2; omega));refine Mz (fun w'=>Zu w' q.e 102 (Uh c a q)) 16 7 [0,1,2,4,5,6,7,8,9] (?_) ?_
 ·exact (Eg.drew H1.o).blk
 refine JL ?_;refine oB ?_;refine I1 ?_;refine Vk _ ⟨q.e,24,none⟩ (.pointer (some ⟨a.n,0,none⟩)) (fun w h=>h.cell 24) ?_;refine X5 ?_;refine Gz ?_;refine XK ?_;generalize W.drew=V at*;refine Jg (i:=3) ?_;refine Q3 ?_;refine JC #[.pointer (some ⟨q.e,21,none⟩)] call201 ((vq.o).mono ?_);rintro e w2 ⟨vb,rfl,h2,hle⟩;have H2:=Za h2;refine ⟨_,rfl,h2.blk,?_⟩;clear h2 vq hle;have HAh:Zl (Zv Zb 216 #[.pointer (some ⟨a.n,0,none⟩),.int .i64 cl] w2 fun e w'=> ∃va,e= .returned va/\Eg (N+1+1+1) w0 w' c a q (ZG (ZG (ZG Z N (Y5 b 68 (Zd v))) (N+1) (YI 23 1 vb s.V.length ((QN s.V).map Ej))) (N+1+1) (YI 3 1 va A.length (A.map (Value.int .i64)))) s L):=Za (by
  obtain ⟨X,hX,VV,hh,_,hK,_⟩:=H2.o.open;refine (hh.ahead hX VV cl).mono fun e w' ⟨va,he,g1,_⟩=>⟨va,he,?_⟩
  have g2:=hK _ _ _ _ g1 Q5 rfl rfl;rw [HX.o.1] at g2;exact g2)
 refine Jg (i:=10) ?_;refine Q3 ?_;refine JC #[.pointer (some ⟨a.n,0,none⟩),.int .i64 cl] call216 ((HAh.o).mono ?_);rintro e w3 ⟨va,rfl,h3⟩;have H3:=Za h3;refine ⟨_,rfl,h3.blk,?_⟩;clear h3 HAh H2;have HWt:Zl (Zv Zb 215 #[vb,va] w3 fun e w'=> ∃bb,e= .returned (.tuple #[.int .u64 x,.bool bb])/\Below w3.heap.size w3 w'):=Za (by
  have r1:=H3.o.row (r:=N+1) ZO Ze Ut;have r2:=H3.o.row (r:=N+1+1) ZO Ze Zq;obtain ⟨ia,ic,rfl,hl1,_,_,hia⟩:=Kb (S:=fun _=>False) r2 (fun _ _ h=>h);obtain ⟨ua,uc,rfl,q5,_,hua⟩:=Fe (S:=fun _=>False) (L:=QN s.V) r1 (fun _ _ h=>h);have:=dN (cap:=uc) (ic:=ic) hua (by rw [q5]; have:=HX.o.2.2.2; omega) (fun j=>Sj HFi.o j) hia HX.o.2.2.1;rw [q5] at this;exact this.mono fun e w' ⟨he,hb⟩=>⟨VU (A.map (wV s.V)) A.length,by rw [he,<-HX.o.2.1]; rfl,hb⟩)
 refine Jg (i:=11) ?_;refine Q3 ?_;refine JC #[vb,va] call215 ((HWt.o).mono ?_);rintro e w4 ⟨bb,rfl,hb⟩;have h4:Eg (N+1) w0 w4 c a q (ZG Z N (Y5 b 68 (Zd v))) s L:=(((H3.o.below hb).less ZO).less ZO).ext fun k h1 h2=>by rw [Zz Ze,Zz Ze]
 have H4:=Za h4;refine ⟨_,rfl,h4.blk,?_⟩;clear h4 hb HWt H3;refine Q3 ?_;refine SR (fun w'=>Zu w' q.e 102 (Uh c a q)) (m:=4) (f:=0) [12,13,14,15] (?_) ?_
 ·exact H4.o.blk
 refine JL ?_;refine He ?_;refine Bi ?_;refine XK ?_;refine GO ?_;refine ⟨by kernel_rfl,?_⟩;refine Mh ?_;go_wp2_with fail;refine Gy ?_;go_wp2_with fail;have H5:=Za (H4.o.drew);have vt:=Za (GG H5.o HT.o.1 HT.o.2.1 HT.o.2.2.1 HT.o.2.2.2);have HBx:Zl (Zu w4.drew b 68 (Zd v)):=Za (H5.o.blkAt (r:=N) HN.o Ze Zq);refine Mz (fun w'=>Zu w' q.e 102 (Uh c a q)/\Zu w' b 68 (Zd v)) 14 4 [0,1,2,4,5,6,7,8,9,10] (?_) ?_
 ·exact ⟨H5.o.blk,HBx.o⟩
 refine JL ?_;refine jk ?_;refine Pv ?_;refine Vk _ ⟨b,0,none⟩ (.int .u64 v.bal) (fun w h=>h.2.cell 0) ?_;refine X5 ?_;refine DL ?_;refine MO 30 _ q.e 0 (Zi c).toList _ rfl rfl rfl (fun w h=>RK h.1) underlying30 rfl X7 ?_;refine Q3 ?_;refine XK ?_;generalize w4.drew=V4 at*;refine Jg (i:=3) ?_;refine JC #[.pointer (some ⟨q.e,20,none⟩)] call42 ((vt.o).mono ?_);rintro e w5 ⟨rfl,m,rfl⟩;have h6:=H5.o.drewN m;refine ⟨_,rfl,⟨h6.blk,HBx.o⟩,?_⟩;have H6:=Za h6;clear h6;refine Jg (i:=11) ?_;refine Q3 ?_;refine JC #[.int .i64 s.ep,.int .u64 x,.int .u64 v.bal,.agg (Zi c)] call217 ((HP.o (V4.drewN m)).mono ?_);rintro e w6 ⟨rfl,hb⟩;have h7:=H6.o.below hb;have H7:=Za h7;refine ⟨_,rfl,⟨h7.blk,h7.blkAt (r:=N) HN.o Ze Zq⟩,?_⟩;clear hb h7 H6 H5 vt HBx;rw [HDue.o,MK];refine Q3 ?_;refine SR (fun w'=>Zu w' q.e 102 (Uh c a q)/\Zu w' b 68 (Zd v)) (m:=2) (f:=0) [12,13] (?_) ?_
 ·exact ⟨H7.o.blk,H7.o.blkAt (r:=N) HN.o Ze Zq⟩
 refine JL ?_;show ZZ _ _ _ _ [_,_] _;refine B9 ?_;refine XK ?_;refine GO ?_;refine ⟨by kernel_rfl,?_⟩;refine Mh ?_;go_wp2_with fail;refine Gy ?_;go_wp2_with fail;go_ret2;exact ⟨by rw [MK]; rfl,H7.o.drop HN.o⟩
end
end
section
open Go Go.RowKit Go.Deep
section
variable {N:Nat} {w0:Fb} {w w' w1:Zc} {c:Nat->Int} {a:Pl} {q:Ql} {Z:Nat->Zc->(Nat->Prop)->Prop} {s s':Sg} {L L':List QW} {k:Nat}
theorem CI {o:Oq}{cl kk:Int}(h:me c s o.ix cl=kk)(hk:kk≠0) :PH c s o cl=(GI s o.kd kk,s):=by unfold PH; rw [h,if_neg hk]
theorem wP {o:Oq}{cl:Int}(h:me c s o.ix cl=0) :PH c s o cl=(F8 s o.kd o.ix (wO c s o.ix cl),Hh c s o.ix cl):=by unfold PH; rw [if_pos h]
theorem p9 (hc:GE c)(hi:Inv c k s)(hk:k<=1000000)(h:Eg N w0 w c a q Z s L)(o:Oq)(ho:GB o){cl:Int}(Ec:cl=0\/cl=1) :Zv Zb 125 #[.pointer (some ⟨q.e,0,none⟩),.agg (ZX o),.int .i64 cl] w (vH N w0 c a q Z (PH c s o cl) L):=by
 have hN:=h.low;have hO:=Ds h o;have HT:=Za (hi.tm hc hk);have HN:=Za hN;have HC:=Za (Zn hc (Zn hi (Zn hk (Zn ho Ec))));have hex:=Zf8 hi hk o.ix cl;have vr:=Za hex;obtain ⟨u,hu⟩ : ∃u,(if EI s.V o.ix=true then ZS else Vq s.V o.ix)=u:=⟨_,rfl⟩;obtain ⟨ok,SX⟩:=ZT ((!EI s.V o.ix));have HU:=Za (Zn hu SX);have vu:Zl (∀wx,Of N w0 wx c a q Z s L w.heap.size o->Z3 126 #[.pointer (some ⟨a.r,0,none⟩),.int .i64 o.ix] wx (.tuple #[.agg (Zd u),.bool ok])):=Za (fun wx hx=>by
  obtain ⟨X,hX,VV,hh,_⟩:=Eg.open hx
  cases hb:EI s.V o.ix with
  | true=>
   exact Za1
  | false=>
   rw [hb] at hu SX;obtain ⟨n,e,hn⟩:=Ue hb;rw [<-hu,<-SX];have:=hh.get_in VV hn;rw [<-e] at this;exact this)
 clear hc hi hk ho Ec hN h hex hu SX;go_enter func125,ntmps125;go_upto_region 1 with (fail);generalize hW:(w.alloc (.cells (ZX o) 49)).alloc (.cells _ 53)=W;have eW:(w.alloc (.cells (ZX o) 49)).alloc (.cells (Z9 Dd) 53)=W:=hW;rw [eW] at hO;generalize w.heap.size=b at*;have HO:=Za hO;clear hW eW hO;go_cut [7,8] from 9 to 20 (fun s7 s8 wx=> ∃zb:Nat,s7= .pointer (some ⟨zb,0,none⟩)/\s8= .bool ok/\Zl (Eg (N+2+1) w0 wx c a q (ZG (ZG (ZG Z N (Y5 b 49 (ZX o))) (N+1) (Y5 (b+1) 53 (Z9 Dd))) (N+2) (Y5 zb 68 (Zd u))) s L))
 case first=>
  exact zT1
 case rest=>
  obtain ⟨zb,rfl,rfl,HE⟩:=hcut;clear vu HO
  cases hb:EI s.V o.ix with
  | true=>
   have ln:Zl (PH c s o cl=(GI s o.kd 7,s)):=Za (CI (by rw [vr.o,if_pos hb]) YW);obtain rfl:ok=false:=by rw [<-HU.o.2,hb]; rfl
   have HD:Zl (Of N w0 wc c a q Z s L b o):=Za (HE.o.drop ZO);have HE:=ln;clear ln vr HU HC hb;exact Om
  | false=>
   obtain rfl:ok=true:=by rw [<-HU.o.2,hb]; rfl
   have hu:=HU.o.1;rw [hb] at hu;replace hu:Vq s.V o.ix=u:=hu;obtain ⟨n,hn,bP⟩:=Ue hb;have hex:=vr.o;rw [hb,hu] at hex;replace hex:me c s o.ix cl=if u.st≠2 then 8 else if c 1<=(VW s.F s.W cl).length then 6 else if SD c s cl u=none then 10 else 0:=hex
   rw [hu] at bP;have HV:=Za (Zn hn (Zn bP hu));have HX:=Za hex;have y1:wc.cell? ⟨zb,1,none⟩=some (.int .i64 u.st):=(HE.o.blkAt (r:=N+2) ZO Ze Zq).cell 1;clear vr HU hb hex hu hn bP
   by_cases h2:u.st=2
   ·have d2:(u.st != 2)=false:=by simp [h2]
    have HF:Zl (Zv Zb 127 #[.pointer (some ⟨q.e,24,none⟩),.int .i64 cl] wc fun e w'=>e= .returned (.bool (((Hz (c 1).toNat s.F s.W cl:Nat) :Int)==0))/\ ∃m,w'=wc.drewN m):=Za (zU HE.o cl);obtain ⟨f,hf⟩:=ZT (Hz (c 1).toNat s.F s.W cl);rw [hf] at HF;rw [ME HC.o.2.2.2.2] at hf;have hll:((VW s.F s.W cl).length:Int)<=c 1:=by
     have h4:=HC.o.2.1.fl;have h5:=HC.o.2.1.wl
     rcases HC.o.2.2.2.2 with e | e <;> subst e <;> simpa [VW] using by assumption
    have HH2:=Za h2;clear h2
    by_cases h3:c 1<=((VW s.F s.W cl).length:Int)
    ·have zy:Zl (PH c s o cl=(GI s o.kd 6,s)):=Za (CI (by rw [HX.o,if_neg (by rw [HH2.o]; decide),if_pos h3]) YW);obtain rfl:f=0:=Ze;clear h3 hll hf HX HV HC HH2;exact Zhv
    ·have hfp:((f:Int)==0)=false:=Xl;have vD:Zl (me c s o.ix cl=if SD c s cl u=none then 10 else 0):=Za (by rw [HX.o,if_neg (by rw [HH2.o]; decide),if_neg h3]);have HL3:Zl (((VW s.F s.W cl).length:Int)< c 1):=Za Ze;clear hf hll h3 HX;go_wp2_with fail;refine HF.o.mono ?_;rintro e w2 ⟨rfl,m,rfl⟩;have Hj:=Za (HE.o.drewN m);clear HF HE y1 d2;generalize wc.drewN m=W2 at*;have HZ2:Zl (Zu W2 zb 68 (Zd u)):=Za (Hj.o.blkAt (r:=N+2) ZO Ze Zq);have ed:Yh u:=HC.o.2.1.fits u (Xi HV.o.2.1);have HPr:=Za (qi HC.o.1 HC.o.2.1 HC.o.2.2.1 Hj.o ed cl);rw [MK] at HPr;obtain ⟨d,hd⟩:=ZT (SD c s cl u);rw [hd] at HPr vD;have HDd:=Za hd;clear hd ed;go_wp2_with (first | (refine Kz 68 zb HZ2.o underlying68 Yb ?_));refine HPr.o.mono ?_;rintro e w3 ⟨rfl,h3⟩;have M7:=Za h3;clear HPr h3 Hj HZ2 hfp
     cases hdd:d with
     | none=>
      subst hdd;have Zfr:Zl (PH c s o cl=(GI s o.kd 10,s)):=Za (CI (by rw [vD.o,if_pos rfl]) YW);have HD:Zl (Of N w0 w3 c a q Z s L b o):=Za (M7.o.drop ZO);clear M7 vD HL3 HDd HV HC HH2;have HE:=Zfr;clear Zfr;exact Om
     | some t=>
      subst hdd;have oF:Zl (PH c s o cl=(F8 s o.kd o.ix t,Hh c s o.ix cl)):=Za (by
       rw [wP (by rw [vD.o,if_neg ZE])];unfold wO;rw [HV.o.2.2,HDd.o]; rfl)
      have hS:Hh c s o.ix cl= { s with V:=s.V.set n { u with rq:=s.ep,st:=3,dl:=t},F:=FR (c 1).toNat s.F cl o.ix,W:=FT (c 1).toNat s.W cl o.ix}:=by
       unfold Hh wO Wy;have mz:=OC (v:=u) (e:=s.ep) IV;rw [HV.o.2.2,HDd.o,mz.2,HV.o.1];rfl
      have HS:=Za hS;clear hS vD;have uS:=HT.o;have HAc:Zl (∀wx,Z3 174 #[.agg (Zd u),.int .i64 s.ep] wx (.tuple #[.agg (Zd { u with rq:=s.ep,st:=3}),.int .i64 0])):=Za (fun wx=>by
       have h0:=ew u s.ep wx (HC.o.2.1.fits u (Xi HV.o.2.1)).2;have mz:=OC (v:=u) (e:=s.ep) IV;have hac1:(Qh [Xo s.ep,Qj 2] u).1=0:=IV;unfold ans at h0;rw [mz.2,hac1] at h0;exact h0)
      go_wp2_with fail;go_cut [7] from 55 to 63 (fun s7 wx=>s7= .pointer (some ⟨zb,0,none⟩)/\Zl (Eg (N+2+1) w0 wx c a q (ZG (ZG (ZG Z N (Y5 b 49 (ZX o))) (N+1) (Y5 (b+1) 53 (Z9 Dd))) (N+2) (Y5 zb 68 (Zd { u with rq:=s.ep,st:=3}))) s L))
      case first=>
       have fB:Of N w0 w3.drew c a q Z s L b o:=M7.o.drew.drop ZO;refine Ra (fun w'=>Of N w0 w' c a q Z s L b o) 7 [1,2,3] (?_) ?_
       ·exact fB
       refine JL ?_;refine Pw ?_;refine DL ?_;refine XK ?_;have Rh:=Za M7.o.drew;clear M7;generalize w3.drew=V3 at*;refine Vh (i:=0) (k:=4) ZC ZE ZE ?_ ?_
       ·refine Yz rfl rfl (wp_load_row 68 _ rfl zb rfl 68 (Zd u) (0,0) _ (Rh.o.blkAt (r:=N+2) ZO Ze Zq) underlying68 rfl Yb ?_);refine ⟨fB,?_⟩;refine Jg (i:=4) ?_;refine Q3 ?_;refine JC #[.pointer (some ⟨q.e,20,none⟩)] call42 ((GG Rh.o uS.b0 uS.b1 uS.l uS.q).mono ?_);rintro e w4 ⟨rfl,m4,rfl⟩;have Ck:=Za (Rh.o.drewN m4);refine ⟨_,rfl,Ck.o.drop ZO,?_⟩;clear Rh uS fB;generalize V3.drewN m4=V4 at*;exact Zho
       ·refine JC #[.pointer (some ⟨q.e,20,none⟩)] call42 ((GG Rh.o uS.b0 uS.b1 uS.l uS.q).mono ?_);rintro e w4 ⟨rfl,m4,rfl⟩;have Ck:=Za (Rh.o.drewN m4);have hD1:Of N w0 (V3.drewN m4) c a q Z s L b o:=Ck.o.drop ZO;refine ⟨_,rfl,hD1,?_⟩;clear Rh uS fB;generalize V3.drewN m4=V4 at*;refine Jg (i:=0) ?_;refine Q3 ?_;refine Yz rfl rfl (wp_load_row 68 _ rfl zb rfl 68 (Zd u) (0,0) _ (Ck.o.blkAt (r:=N+2) ZO Ze Zq) underlying68 rfl Yb ?_);refine ⟨hD1,?_⟩;exact Zho
      case rest=>
       obtain ⟨rfl,HE8⟩:=hcut;have hB:=HE8.o.blkAt (r:=N+2) ZO Ze Zq;have hfz:wc.frozen? ⟨zb,6,none⟩=false:=hB.frozen 6;have hc6:=QS hB 6;have h9:=HE8.o.setc (r:=N+2) ZO Ze Zq 6 (.int .i64 t);rw [Xx] at h9;have Wx:Zl (Eg (N+2+1) w0 (wc.setCell ⟨zb,6,none⟩ (.int .i64 t)) c a q (ZG (ZG (ZG Z N (Y5 b 49 (ZX o))) (N+1) (Y5 (b+1) 53 (Z9 Dd))) (N+2) (Y5 zb 68 (Zd { u with rq:=s.ep,st:=3,dl:=t}))) s L):=Za h9;clear h9 hB HE8;go_wp2_with fail;clear hfz hc6;generalize wc.setCell ⟨zb,6,none⟩ (.int .i64 t)=W9 at*;have HO9:Zl (Of N w0 W9 c a q Z s L b o):=Za (Wx.o.drop ZO);have x21:=Eg.x21 Wx.o;have k1:=Of.k1 HO9.o HN.o;have HB9:=Za (Wx.o.blkAt (r:=N+2) ZO Ze Zq);clear Wx;refine GL 8 ?_;refine GM ?_;refine I1 ?_;refine QP 68 _ zb 68 (Zd { u with rq:=s.ep,st:=3,dl:=t}) _ rfl rfl rfl (fun w' h=>by obtain ⟨m,rfl⟩:=h; exact HB9.o) underlying68 rfl Yb ?_;refine X5 ?_;refine XK ?_;intro _ Jq;obtain ⟨nr,Y9⟩:=Jq;subst Y9;clear HB9 x21 k1;have jr:Zl (Zv Zb 175 #[.pointer (some ⟨a.r,0,none⟩),.int .i64 o.ix,.agg (Zd { u with rq:=s.ep,st:=3,dl:=t})] (W9.drewN nr) fun e w'=>e= .returned (.int .i64 0)/\Of N w0 w' c a q Z { s with V:=s.V.set n { u with rq:=s.ep,st:=3,dl:=t}} L b o):=Za (by
        have hx:=J4 HO9.o nr;obtain ⟨X,hX,VV,hh,hK,_⟩:=Eg.open hx;have ed:=HC.o.2.1.fits u (Xi HV.o.2.1);have bT:=HC.o.2.1.total HC.o.1;have hs:=hh.set hX VV (v':= { u with rq:=s.ep,st:=3,dl:=t}) HV.o.2.1 ⟨ed.1,rfl⟩ (by show Zw s.V - u.bal+u.bal<=_; omega);rw [<-HV.o.1] at hs;exact hs.mono fun e w' ⟨he,h1⟩=>⟨he,hK _ _ _ h1 rfl rfl⟩)
       clear HO9;generalize W9.drewN nr=W10 at*;go_wp2_with fail;refine jr.o.mono ?_;rintro e w11 ⟨rfl,UT⟩;have vC:=Za UT;clear UT jr;go_wp2_with fail;have x24:=Eg.x24 vC.o;have k1:=Of.k1 vC.o HN.o;refine GL 8 ?_;refine GM ?_;iterate 8 (go_big_quiet_step ((intros; rfl)))
       refine XK ?_;intro _ Jq;obtain ⟨nr,Y9⟩:=Jq;subst Y9;clear x24 k1;have WY:Zl (Zv Zb 130 #[.pointer (some ⟨a.n,0,none⟩),.int .i64 cl,.int .i64 o.ix] (w11.drewN nr) fun e w'=>(∃r,e= .returned (.int .i64 r))/\Of N w0 w' c a q Z (Hh c s o.ix cl) L b o):=Za (by
        have hx:=J4 vC.o nr;obtain ⟨X,hX,VV,hh,hK,_⟩:=Eg.open hx;refine (hh.lpush hX VV cl o.ix).mono fun e w' ⟨he,h1⟩=>⟨⟨_,he⟩,?_⟩
        rw [HS.o];exact hK _ _ _ h1 rfl rfl)
       clear vC;generalize w11.drewN nr=W12 at*;go_wp2_with fail;refine WY.o.mono ?_;rintro e w13 ⟨⟨r13,rfl⟩,fA⟩;have HD:=Za fA;have HT2:Zl (Tm c (Hh c s o.ix cl)):=Za ⟨HT.o.b0,HT.o.b1,HT.o.l,HT.o.q⟩;have HE:=oF;clear fA WY oF HS HV HC HH2 HL3 HDd;exact jm
   ·have HE8:Zl (PH c s o cl=(GI s o.kd 8,s)):=Za (CI (by rw [HX.o,if_pos h2]) YW);have d2:(u.st != 2)=true:=by simp [h2]
    have HD:Zl (Of N w0 wc c a q Z s L b o):=Za (HE.o.drop ZO);have HE:=HE8;clear HE8 HX HV HC h2;exact Om
theorem Zf0 (hc:GE c)(hi:Inv c k s)(hk:k<=1000000)(h:Eg N w0 w c a q Z s L)(o:Oq)(ho:GB o) :Zv Zb 85 #[.pointer (some ⟨q.e,0,none⟩),.agg (ZX o)] w (vH N w0 c a q Z (PH c s o 1) L):=by
 have hN:=h.low;have hO:=Ds h o;have HN:=Za hN;have H:=Za (fun W (hO:Of N w0 W c a q Z s L w.heap.size o)=>p9 (N:=N+2) hc hi hk hO o ho (cl:=1) ZE);obtain ⟨r,hr⟩:=ZT (PH c s o 1);rw [hr] at H ⊢;clear hc hi hk h ho hN hr;go_enter func85,ntmps85;go_upto_region 1 with (fail);generalize hW:(w.alloc (.cells (ZX o) 49)).alloc (.cells _ 53)=W;have eW:(w.alloc (.cells (ZX o) 49)).alloc (.cells (Z9 Dd) 53)=W:=hW;rw [eW] at hO;generalize w.heap.size=b at*;have WX:=Za (hO.op HN.o);have HL:=Za (H.o W hO);clear hW eW hO H;go_wp2_with (first | (refine Kz 49 b WX.o underlying49 BA ?_));refine HL.o.mono ?_;rintro e w9 ⟨rfl,h9⟩;have H9:=Za h9;have Wq:=Za (Of.rc h9 HN.o);clear h9 HL WX;go_wp2_with (first | (refine UP (b+1) (Z9 (rcP r.1)) 53 Wq.o Vi (Ke _) ?_));exact bodyPost_ret (v:= .agg (Z9 (rcP r.1))) (results_cell_row (fn:=Tryz.f85) rfl _ _ (b+1) 53 _ (0,0) _ rfl (setRow_heap _ _ _ _ _ _ Wq.o) underlying53 rfl Vi) rfl (Zn rfl (Of.done H9.o HN.o _))
theorem Zcn (hc:GE c)(hi:Inv c k s)(hk:k<=1000000)(h:Eg N w0 w c a q Z s L)(o:Oq)(ho:GB o) :Zv Zb 86 #[.pointer (some ⟨q.e,0,none⟩),.agg (ZX o)] w (vH N w0 c a q Z (PH c s o 0) L):=by
 have hN:=h.low;have hO:=Ds h o;have HN:=Za hN;have H:=Za (fun W (hO:Of N w0 W c a q Z s L w.heap.size o)=>p9 (N:=N+2) hc hi hk hO o ho (cl:=0) ZE);obtain ⟨r,hr⟩:=ZT (PH c s o 0);rw [hr] at H ⊢;clear hc hi hk h ho hN hr;go_enter func86,ntmps86;go_upto_region 1 with (fail);generalize hW:(w.alloc (.cells (ZX o) 49)).alloc (.cells _ 53)=W;have eW:(w.alloc (.cells (ZX o) 49)).alloc (.cells (Z9 Dd) 53)=W:=hW;rw [eW] at hO;generalize w.heap.size=b at*;have WX:=Za (hO.op HN.o);have HL:=Za (H.o W hO);clear hW eW hO H;go_wp2_with (first | (refine Kz 49 b WX.o underlying49 BA ?_));refine HL.o.mono ?_;rintro e w9 ⟨rfl,h9⟩;have H9:=Za h9;have Wq:=Za (Of.rc h9 HN.o);clear h9 HL WX;go_wp2_with (first | (refine UP (b+1) (Z9 (rcP r.1)) 53 Wq.o Vi (Ke _) ?_));exact bodyPost_ret (v:= .agg (Z9 (rcP r.1))) (results_cell_row (fn:=Tryz.f86) rfl _ _ (b+1) 53 _ (0,0) _ rfl (setRow_heap _ _ _ _ _ _ Wq.o) underlying53 rfl Vi) rfl (Zn rfl (Of.done H9.o HN.o _))
end
end
end Go.Proofs.YtobgbcdgffgdhaaGreat
