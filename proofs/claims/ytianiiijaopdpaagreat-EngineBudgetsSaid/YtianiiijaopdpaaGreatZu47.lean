/- Part 47 of 58: Go6 Go7 Md Dep Pro Lev. -/
import Derived.Test.YtianiiijaopdpaaGreatZu00
import Derived.Test.YtianiiijaopdpaaGreatZu46
namespace Go.Proofs.YtianiiijaopdpaaGreat
set_option linter.unusedVariables false
set_option linter.unusedSimpArgs false
set_option maxRecDepth 100000
set_option maxHeartbeats 8000000
open _root_.And renaming intro → Zl
open _root_.Go renaming Calls → Zi, World → Zc, bodyPost_ret → ZL, results_cell_row → ZU, setRow_heap → Yc, wpList_load_row → Zn, wpList_store_row → Zm, wpQuiet → ZB, wpQuiet_nil → Zj
open _root_.Go.Proofs.YtianiiijaopdpaaGreat.Eg renaming drewN → Kc
open _root_.Go.Proofs.YtianiiijaopdpaaGreat.Kept renaming refl → ZM, setCells → QC
open _root_.Go.Lib renaming hid → Za
open _root_.List renaming drop_eq_getElem?_toList_append → Kl, ext_getElem → Kq, getD_eq_getElem?_getD → Zq, getElem?_eq_getElem → Zf, getElem?_eq_some_iff → Zh, getElem?_map → ZR, length_map → YM, replicate → ZF
open _root_.Nat renaming le_trans → Yk
open _root_.Go.NoPanic renaming normal → ZH
open _root_.Go.Proofs.YtianiiijaopdpaaGreat.Of renaming op → Km, rc → VS
open _root_.Go.Region renaming seqB → YH, wanted → Xc
open _root_.Go.Proofs.Tryz renaming call54 → J5, prog → Zb, underlying37 → ZS, underlying42 → Yf, underlying63 → Zs
theorem j4 {G:Prop}(h:G:=by rw [List.getElem?_take_of_lt XJ]; exact hp) :G:=h
theorem jW {G:Prop}(h:G:=by have:=HV.out.2.2; have:=HV.out.2.1; unfold maxLen; omega) :G:=h
theorem jV {G:Prop}(h:G:=by rw [RI (HC.out.2.1.ep_in HC.out.2.2.1),if_pos HH2.out]) :G:=h
theorem Rs {G:Prop}(h:G:=by rw [HM.out]; exact XJ) :G:=h
theorem Ro {G:Prop}(h:G:=by rw [HM.out]; exact Nat.le_refl _) :G:=h
theorem JP {G:Prop}(h:G:=by simp only [HE.out]; rfl) :G:=h
theorem KH {G:Prop}(h:G:=by simp only [HE.out]; exact H9.out.done HN.out _) :G:=h
theorem zT1 {G:Prop} (h:G:=by
  refine PG (fun w'=>Of N w0 w' c a q Z s L b o) 7 [0,1,2,3,4,5,6] (?_) ?_
  ·exact Eg.drew HO.out
  simp only [qF,qH];show wpQuiet _ _ _ _ [_,_,_,_,_,_,_] _;iterate 4 (go_big_quiet_step ((intros; rfl)))
  refine Yw _ _ ⟨q.e,21,none⟩ (.pointer (some ⟨a.r,0,none⟩)) rfl rfl rfl (fun w h=>by simp [go_sem,h]) (fun w h=>Eg.x21 h) ?_;simp only [qB];iterate 1 (go_big_quiet_step ((intros; rfl)))
  refine Yw _ _ ⟨b,1,none⟩ (.int .i64 o.ix) rfl rfl rfl (fun w h=>by simp [go_sem,h]) (fun w h=>Of.k1 h HN.out) ?_;simp only [qB];refine wpQuiet_nil ?_;have hD:Of N w0 W.drew c a q Z s L b o:=Eg.drew HO.out;clear HO;generalize W.drew=V at*;refine UI (i:=7) (k:=11) Yi ZO ZO ?_ ?_
  ·refine JM #[.pointer (some ⟨a.r,0,none⟩),.int .i64 o.ix] Tryz.call70 ((uF.out _ hD).mono ?_);rintro e w2 ⟨rfl,hb⟩;have h2:Of N w0 w2 c a q Z s L b o:=Eg.below hD hb;refine ⟨_,rfl,h2,?_⟩;clear hb;try simp only [qA]
   refine FR (fun w'=>Of N w0 w' c a q Z s L b o) (m:=6) (f:=3) [8,9,10] (?_) ?_
   ·exact h2
   simp only [qF,qH];show wpQuiet _ _ _ _ [_,_,_] _;iterate 3 (go_big_quiet_step ((intros; rfl)))
   refine wpQuiet_nil ?_;refine Qt (i:=11) ?_;refine YE rfl rfl (Kk rfl ?_);refine ⟨Eg.below h2 ((Below.refl _ _).alloc (Nat.le_refl _) _),?_⟩;try simp only [qA]
   refine Qt (i:=12) ?_;refine YE rfl rfl (wp_store_row _ _ _ rfl w2.heap.size (Zd u) rfl rfl 63 _ (heap_alloc_new w2 _) Yo rfl (Yy _) ?_);rw [jJ];have h3:=Eg.box h2 (Zd u) 63;have h4:Of N w0 (w2.alloc (.cells (Zd u) 63)) c a q Z s L b o:=Eg.below h2 ((Below.refl _ _).alloc (Nat.le_refl _) _);refine ⟨h4,?_⟩;generalize w2.alloc (.cells (Zd u) 63)=w4 at*;try simp only [qA]
   refine FR (fun w'=>Of N w0 w' c a q Z s L b o) (m:=1) (f:=0) [13] (?_) ?_
   ·exact h4
   simp only [qF,qH];show wpQuiet _ _ _ _ [_] _;iterate 1 (go_big_quiet_step ((intros; rfl)))
   refine wpQuiet_nil ?_;refine ⟨by kernel_rfl,NoPanic.normal ?_⟩;try simp only [qA]
   go_wp2_with fail;go_meet;exact ⟨_,rfl,rfl,Lib.hid h3⟩
  ·refine YE rfl rfl (Kk rfl ?_);have h1:=Eg.box hD (Zd Z9) 63;have h1':Of N w0 (V.alloc (.cells (Zd Z9) 63)) c a q Z s L b o:=Eg.below hD ((Below.refl _ _).alloc (Nat.le_refl _) _);refine ⟨h1',?_⟩;generalize V.heap.size=zb at*;generalize V.alloc (.cells (Zd Z9) 63)=V1 at*;try simp only [qA]
   refine Qt (i:=7) ?_;try simp only [qA]
   refine JM #[.pointer (some ⟨a.r,0,none⟩),.int .i64 o.ix] Tryz.call70 ((uF.out _ h1').mono ?_);rintro e w2 ⟨rfl,hb⟩;have h2:=h1.below hb;have h2':Of N w0 w2 c a q Z s L b o:=Eg.below h1' hb;refine ⟨_,rfl,h2',?_⟩;clear hb;try simp only [qA]
   refine FR (fun w'=>Of N w0 w' c a q Z s L b o) (m:=5) (f:=2) [8,9,10] (?_) ?_
   ·exact h2'
   simp only [qF,qH];show wpQuiet _ _ _ _ [_,_,_] _;iterate 3 (go_big_quiet_step ((intros; rfl)))
   refine wpQuiet_nil ?_;refine Qt (i:=12) ?_;have hB:=h2.blkAt (r:=N+2) ZQ Ze xput_same;refine YE rfl rfl (wp_store_row _ _ _ rfl zb (Zd u) rfl rfl 63 _ hB Yo rfl (Yy _) ?_);have h3:=h2.setr (r:=N+2) ZQ Ze xput_same (cs':=Zd u) (Zy.setRow hB _) (Kept.setRow (S:=fun i=>i=zb) (Kept.refl _ _) (.inl rfl) _);rw [Xg] at h3;have h4:Of N w0 (w2.setRow zb (Zd u)) c a q Z s L b o:=h3.drop ZQ;refine ⟨h4,?_⟩;generalize w2.setRow zb (Zd u)=w4 at*;try simp only [qA]
   refine FR (fun w'=>Of N w0 w' c a q Z s L b o) (m:=1) (f:=0) [13] (?_) ?_
   ·exact h4
   simp only [qF,qH];show wpQuiet _ _ _ _ [_] _;iterate 1 (go_big_quiet_step ((intros; rfl)))
   refine wpQuiet_nil ?_;refine ⟨by kernel_rfl,NoPanic.normal ?_⟩;try simp only [qA]
   go_wp2_with fail;go_meet;exact ⟨_,rfl,rfl,Lib.hid h3⟩) :G:=h
theorem Zf5 {G:Prop} (h:G:=by
  have Vv:=Lib.hid (Of.op HD.out HN.out);go_wp2_with (first | (refine wpList_load_row rfl 37 _ rfl b rfl 37 _ (0,0) _ Vv.out Tryz.underlying37 rfl XV ?_));refine (Vf (N:=N+2) HD.out HT.out o 3).mono ?_;rintro e w9 ⟨rfl,h9⟩;have H9:Hid (Of N w0 w9 c a q Z s L b o):=Lib.hid h9;have Vs:=Lib.hid (Of.rc h9 HN.out);clear h9 Vv HD;go_wp2_with (first | (refine wpList_store_row rfl _ _ _ rfl (b+1) (Zz (VN o.kd 3 s.bk s.ep)) rfl rfl 42 _ Vs.out YS rfl (YC _) ?_));exact bodyPost_ret (v:= .agg (Zz (VN o.kd 3 s.bk s.ep))) (results_cell_row (fn:=Tryz.f83) rfl _ _ (b+1) 42 _ (0,0) _ rfl (setRow_heap _ _ _ _ _ _ Vs.out) Tryz.underlying42 rfl YS) rfl (And.intro JP KH)) :G:=h
theorem ZgK {G:Prop} (h:G:=by
  go_wp2_with fail;refine H.out.mono ?_;rintro e w2 ⟨v,rfl,h2⟩;have H2:=Lib.hid h2;clear h2 H;go_wp2_with fail;go_ret;exact ⟨_,rfl,H2.out⟩) :G:=h
theorem ZgZ {G:Prop} (h:G:=by
  go_wp2_with fail;go_roundw
  case rel=>exact ⟨j+1,by omega,by go_num,H4,zf⟩
  case measure=>simp [intOf]; omega) :G:=h
section
open Go Go.RowKit Go.Deep
def I1 (n:Nat)(F:List Nat) :List Bool:=(List.range n).map fun j=>decide (j ∈ F)
theorem wH (n:Nat)(F:List Nat) :(I1 n F).length=n:=by simp [I1]
theorem wI (n:Nat) :I1 n []=ZF n false:=by
 apply Kq (by simp [I1]);intro i h1 h2;simp [I1]
theorem wJ {n:Nat}{F:List Nat}{k i:Nat}(hk:F[k]?=some i) :(I1 n (F.take k)).set i true=I1 n (F.take (k+1)):=by
 apply Kq (by simp [I1]);intro j h1 h2;rw [List.getElem_set];simp only [I1,List.getElem_map,List.getElem_range];rw [List.take_add_one,hk]
 by_cases h:i=j
 ·subst h; simp
 ·rw [if_neg h];have: ¬j=i:=fun e=>h e.symm
  simp [this]
theorem qJ (V:List Yd) :I1 V.length (Lx V 5 V.length)=M7 V:=by
 apply Kq (by simp [I1,M7]);intro j h1 h2;have hj:j < V.length:=by simpa [I1] using h1
 simp only [I1,M7,List.getElem_map,List.getElem_range];apply decide_eq_decide.2;rw [NB,Zq,Zf hj];simp [hj]
def vB (b:Bool) :Value:= .bool b
section
variable {N:Nat} {w0:Ez} {w w' w1:Zc} {c:Nat→Int} {a:Pl} {q:Ql} {Z:Nat→Zc→(Nat→Prop)→Prop} {s s':Sg} {L L':List QO}
theorem Zbv (h:Eg N w0 w c a q Z s L){vs p:Int}(hcu:s.cu≤100)(hl:s.V.length≤100) :
  Zi Zb 220 #[.pointer (some ⟨q.e,21,none⟩),.int .i64 vs,.int .i64 p] w fun e w'=> ∃b2 cp,e= .returned (.tuple #[.slice b2 (KD (M7 s.V) s.cu (FZ (M7 s.V) s.cu vs p)).length cp,.int .i64 (FZ (M7 s.V) s.cu vs p)])∧
   Eg (N+1) w0 w' c a q (ZI Z N (Kh L6 1 b2 (KD (M7 s.V) s.cu (FZ (M7 s.V) s.cu vs p)))) { s with cu:=DS s.V.length s.cu (FZ (M7 s.V) s.cu vs p)} L∧w.heap.size≤w'.heap.size:=by
 have hN:=h.low;have y0:w.cell? ⟨q.e,21,none⟩=some (.pointer (some ⟨a.r,0,none⟩)):=h.blk.cell 21;obtain ⟨n,hn⟩ : ∃n,s.V.length=n:=⟨_,rfl⟩;have Dt:=Ll n Ze w;obtain ⟨F,hF⟩ : ∃F,Lx s.V 5 n=F:=⟨_,rfl⟩;have Me:F.length≤n:=by
  have:=Zde s.V 5 (Nat.le_refl n);rw [←hF]; unfold Lx; exact Yk (List.length_filter_le _ _) ZO
 have hR:I1 n F=M7 s.V:=by rw [←hF,←hn]; exact qJ s.V
 have HF:Hid (∀i ∈ F,i < n):=Za fun i hi=>by rw [←hF] at hi; exact (NB.1 hi).1
 have H0:Hid (Eg (N+1) w0 (w.alloc (.cells (U1 (ZF n false)) 4)) c a q (ZI Z N (YR w.heap.size 4 ((I1 n (F.take 0)).map vB).toArray)) s L):=Za (by
  have:=h.box (U1 (ZF n false)) 4;rw [show ((I1 n (F.take 0)).map vB).toArray=U1 (ZF n false) by rw [List.take_zero,wI]; rfl];exact this)
 have yY:Hid (w.heap.size≤(w.alloc (.cells (U1 (ZF n false)) 4)).heap.size):=Za ZO;have HWi:=Za (zr H0.out (st:=5) rfl Ze);rw [hn,hF] at HWi;have HG:Hid (Zi Zb 119 #[.pointer (some ⟨a.r,0,none⟩)] w fun e w'=>e= .returned (.int .i64 (n:Int))∧w=w'):=Za (by
  obtain ⟨X,hX,VP,hh,_⟩:=h.open;have:=hh.len VP;rwa [hn] at this)
 obtain ⟨M,hM⟩ : ∃M,FZ (M7 s.V) s.cu vs p=M:=⟨_,rfl⟩;obtain ⟨J,hJ⟩ : ∃J,KD (M7 s.V) s.cu M=J:=⟨_,rfl⟩;have HN:=Za hN;have HV:=Za (Zl hn (Zl hcu (Zl hl (Zl hR (Zl hM hJ)))));have hn100:n≤100:=by omega
 rw [hM,hJ,hn];clear h hn hN hcu hl hR hF hM hJ;go_enter Tryz.func220,Tryz.ntmps220;go_wp2_with fail;refine HG.out.mono ?_;rintro e w2 ⟨rfl,rfl⟩;clear HG;go_wp2_with fail;clear Dt;refine HWi.out.mono ?_;rintro e w3 ⟨v,rfl,h3,hle⟩;clear HWi H0;generalize hz:w.heap.size=z at*;have HZZ:=Za hz;clear hz;obtain ⟨ia,cp,rfl⟩:=XH (h3.row (r:=N+1) ZQ Ze xput_same);have H3:=Za h3;have HL3:Hid (z≤w3.heap.size):=Za (Yk yY.out hle);obtain ⟨m,hm⟩ : ∃m,F.length=m:=⟨_,rfl⟩;have HM:=Za hm;rw [hm] at Me H3 ⊢;clear h3 hle yY hm y0;go_wp2_with fail;go_loopw [20] (fun s20 wr=> ∃(k:Nat),k≤m∧s20= .int .i64 k∧Hid (Eg (N+1+1) w0 wr c a q (ZI (ZI Z (N+1) (YP 3 1 (.slice ia m cp) m (F.map Lu))) N (YR z 4 ((I1 n (F.take k)).map vB).toArray)) s L)∧Hid (z≤wr.heap.size)) (fun s20 _=>m -(intOf s20).toNat)
 case atStart=>exact ⟨0,by omega,rfl,Za (H3.out.ext fun k h1 h2=>by
  unfold ZI
  by_cases e1:k=N+1
  ·subst e1; rw [if_pos rfl,if_neg Ze,if_pos rfl]
  ·by_cases e2:k=N
   ·subst e2; rw [if_neg Ze,if_pos rfl,if_pos rfl]
   ·rw [if_neg e1,if_neg e2,if_neg e2,if_neg e1]),HL3⟩
 case round=>
  obtain ⟨k,hk,rfl,HE,HZ⟩:=hrel
  by_cases XJ:k < m
  ·obtain ⟨i,hi⟩ : ∃i,F[k]?=some i:=⟨_,Zf Rs⟩;have Ak:i < n:=HF.out i (List.mem_of_getElem? hi);obtain ⟨g,rfl,hc⟩:=Ir (HE.out.row (r:=N+1) ZQ Ze Ua) (show (F.map Lu)[k]?=some (.int .i64 (i:Int)) by rw [ZR,hi]; rfl);have hB:=HE.out.blkAt (r:=N) HN.out Ze xput_same;obtain ⟨uu,hc2⟩ : ∃uu,wr.cell? ⟨z,i,none⟩=some uu:=⟨_,(hB.cell i).trans (by rw [List.getElem?_toArray,Zf (by rw [YM,wH]; exact Ak)])⟩;have hfz:wr.frozen? ⟨z,i,none⟩=false:=hB.frozen i;have H4:Hid (Eg (N+1+1) w0 (wr.setCell ⟨z,i,none⟩ (.bool true)) c a q (ZI (ZI Z (N+1) (YP 3 1 (.slice (some ⟨g,0,none⟩) m cp) m (F.map Lu))) N (YR z 4 ((I1 n (F.take (k+1))).map vB).toArray)) s L):=Za (by
    have h4:=HE.out.setc (r:=N) HN.out Ze xput_same i (.bool true);rw [Xg,List.setIfInBounds_toArray,show Value.bool true=vB true from rfl,←List.map_set,wJ hi] at h4;exact h4)
   have HZ4:Hid (z≤(wr.setCell ⟨z,i,none⟩ (.bool true)).heap.size):=Za (by have:=HZ.out; simpa using this);clear hB HE hi;go_wp2_with fail;exact Zaj
  ·obtain rfl:k=m:=by omega
   clear XJ;have XJ: ¬k < k:=by omega
   have h5:=HE.out;rw [List.take_of_length_le Ro,HV.out.2.2.2.1] at h5;have h6:=h5.torow (r:=N) (k:=1) (n:=n) HN.out Ze xput_same (by rw [YM,M7,YM,HV.out.1,Nat.mul_one]) US;rw [Xg] at h6;have y5:wr.cell? ⟨q.e,23,none⟩=some (.pointer (some ⟨a.k,0,none⟩)):=h6.blk.cell 23;have HS:Hid (Zi Zb 270 #[.pointer (some ⟨a.k,0,none⟩),.slice (some ⟨z,0,none⟩) n n,.int .i64 vs,.int .i64 p] wr fun e w'=> ∃b2 cp,e= .returned (.tuple #[.slice b2 J.length cp,.int .i64 M])∧
     Eg (N+1) w0 w' c a q (ZI Z N (Kh L6 1 b2 J)) { s with cu:=DS n s.cu M} L∧wr.heap.size≤w'.heap.size):=Za (by
    obtain ⟨X,hX,VP,hh,be,Wu,hZk,_⟩:=h6.open;have nS:=h6.low;have hxr:X N=YP 4 1 (.slice (some ⟨z,0,none⟩) n n) n ((M7 s.V).map Value.bool):=(hZk N HN.out Ze).trans xput_same;refine (hh.sweep2 hX VP (r:=N) ZQ Ze hxr HV.out.2.1 (by rw [M7,YM,HV.out.1]; exact hn100) (vs:=vs) (p:=p)).mono ?_;rintro e w' ⟨b2,cp2,rfl,g1,g2⟩;rw [HV.out.2.2.2.2.1,HV.out.2.2.2.2.2] at g1 ⊢;have g3:=Wu _ _ _ _ g1 Lo rfl rfl;refine ⟨b2,cp2,rfl,?_,g2⟩;rw [show (M7 s.V).length=n by rw [M7,YM,HV.out.1]] at g3;exact Eg.pick (m:=2) g3 HN.out (fun k h1 h2=>by rw [xput_ne Ze,xput_ne Ze,xput_ne Ze]) xput_same)
   clear HE h5 h6;go_wp2_with fail;refine HS.out.mono ?_;rintro e w4 ⟨b2,c2,rfl,g1,g2⟩;have G:=Za (Zl g1 (Yk HZ.out g2));clear g1 g2 HS;go_wp2_with fail;go_ret2;exact ⟨b2,c2,rfl,G.out.1,by rw [HZZ.out]; exact G.out.2⟩
end
end
section
open Go Go.RowKit Go.Deep
section
variable {N:Nat} {w0:Ez} {w w' w1:Zc} {c:Nat→Int} {a:Pl} {q:Ql} {X Z:Nat→Zc→(Nat→Prop)→Prop} {s s':Sg} {L L':List QO}
theorem lk (h:Eg N w0 w c a q Z s L){mo:Int}(h0:0≤mo)(hl:s.mg.length≤100000){k:Nat}(hk:min mo.toNat s.mg.length=k) :
  Zi Zb 298 #[.pointer (some ⟨q.d,0,none⟩),.int .i64 mo] w fun e w'=> ∃v,e= .returned v∧Eg (N+1) w0 w' c a q (ZI Z N (YP 73 2 v k (Js (s.mg.take k)))) { s with mg:=s.mg.drop k} L∧w.heap.size≤w'.heap.size:=by
 have hN:=h.low;have HG:=Za h.mlen;have Dt:=cQ k Ze w;obtain ⟨n,hn⟩ : ∃n,s.mg.length=n:=⟨_,rfl⟩;rw [hn] at hl hk HG;have lR:(if(n:Int)< mo then(n:Int) else mo)=(k:Int):=by split <;> omega
 have dI:min mo (n:Int)=(k:Int):=by omega
 have HA:Hid ((s.mg.take k).length=k):=Za N5;have H0:Hid (Eg (N+1) w0 (w.alloc (.cells (Js (ZF k ((0:Int),(0:Int)))).toArray 73)) c a q (ZI Z N (YR w.heap.size 73 (Js (Ke (s.mg.take k) ((0:Int),(0:Int)) 0)).toArray)) { s with mg:=s.mg.drop 0} L):=Za (by
  have:=h.box (Js (ZF k ((0:Int),(0:Int)))).toArray 73;rw [MA,HA.out];exact this)
 have yY:Hid (w.heap.size≤(w.alloc (.cells (Js (ZF k ((0:Int),(0:Int)))).toArray 73)).heap.size):=Za ZO;have HN:=Za hN;have HV:=Za (Zl hn (Zl hk hl));have vY:k≤100000:=by omega
 clear h hn hN h0 hl hk;go_enter Tryz.func298,Tryz.ntmps298;go_wp2_with fail;refine HG.out.mono ?_;rintro e w2 ⟨rfl,rfl⟩;clear HG;go_wp2_with fail;clear Dt lR dI;generalize hz:w.heap.size=z at*;have HZZ:=Za hz;clear hz;generalize w.alloc (.cells (Js (ZF k ((0:Int),(0:Int)))).toArray 73)=W at*;go_loopw [14] (fun s14 wr=> ∃(j:Nat),j≤k∧s14= .int .i64 j∧Hid (Eg (N+1) w0 wr c a q (ZI Z N (YR z 73 (Js (Ke (s.mg.take k) ((0:Int),(0:Int)) j)).toArray)) { s with mg:=s.mg.drop j} L)∧Hid (z≤wr.heap.size)) (fun s14 _=>k -(intOf s14).toNat)
 case atStart=>exact ⟨0,by omega,rfl,H0,yY⟩
 case round=>
  obtain ⟨j,hj,rfl,HE,HZ⟩:=hrel
  by_cases XJ:j < k
  ·obtain ⟨p,hp⟩ : ∃p,s.mg[j]?=some p:=⟨_,Zf (by rw [HV.out.1]; have:=HV.out.2.1; omega)⟩;have HP:Hid ((s.mg.take k)[j]?=some p):=Za j4;have HD:Hid (s.mg.drop j=p::s.mg.drop (j+1)):=Za (Kl .. |>.trans (by rw [hp]; rfl));have HG:=Za (HE.out.mpop (p:=p) (rest:=s.mg.drop (j+1)) HD.out);clear hp;go_wp2_with fail;refine HG.out.mono ?_;rintro e w2 ⟨rfl,h2,hle⟩;have hB:=h2.blkAt (r:=N) HN.out Ze xput_same;have Gm:=h2.mstore (r:=N) HN.out Ze xput_same HP.out;rw [Xg] at Gm;have tD:=Za Gm;have zf:Hid (z≤(w2.setCells z (j*2) (cellsP p).toList).heap.size):=Za (by
    have h3:=(QC (cellsP p).toList (j*2) w2 (ZM (fun i=>i=z) w2) (.inl rfl)).size;have:=HZ.out;omega)
   clear h2 hle hB Gm HG HE HZ HD HP;go_wp2_with (first | (refine wpList_store_mid rfl 73 _ _ rfl z (j*2) (cellsP p) rfl rfl tD.out.1 Be (Um p) ?_));have H4:=Za tD.out.2;clear tD;generalize w2.setCells z (j*2) (cellsP p).toList=W4 at*;exact ZgZ
  ·obtain rfl:j=k:=by omega
   clear XJ;have XJ: ¬j < j:=by omega
   have H7:Hid (Eg (N+1) w0 wr c a q (ZI Z N (YP 73 2 (.slice (some ⟨z,0,none⟩) j j) j (Js (s.mg.take j)))) { s with mg:=s.mg.drop j} L):=Za (by
    have h1:=HE.out;have hA:=HA.out;have h3:Ke (s.mg.take j) ((0:Int),(0:Int)) j=s.mg.take j:=by
     have:=Ox (A:=s.mg.take j) (z:=((0:Int),(0:Int)));rwa [hA] at this
    rw [h3] at h1;have h2:=h1.torow (r:=N) (k:=2) (n:=j) HN.out Ze xput_same (by rw [Fx,hA]) jW;rwa [Xg] at h2)
   exact sN
theorem ph (h:Eg N w0 w c a q Z s L){mo:Int}(h0:0≤mo)(hl:s.mg.length≤100000){k:Nat}(hk:min mo.toNat s.mg.length=k) :
  Zi Zb 263 #[.pointer (some ⟨q.e,27,none⟩),.int .i64 mo] w fun e w'=> ∃v,e= .returned v∧Eg (N+1) w0 w' c a q (ZI Z N (YP 73 2 v k (Js (s.mg.take k)))) { s with mg:=s.mg.drop k} L∧w.heap.size≤w'.heap.size:=by
 have y0:w.cell? ⟨q.e,28,none⟩=some (.pointer (some ⟨q.d,0,none⟩)):=h.blk.cell 28;have H:=Za (lk h h0 hl hk);clear h h0 hl hk;go_enter Tryz.func263,Tryz.ntmps263;exact ZgK
theorem ll (h:Eg N w0 w c a q Z s L){mo:Int}(h0:0≤mo)(hl:s.pt.length≤100000){k:Nat}(hk:min mo.toNat s.pt.length=k) :
  Zi Zb 265 #[.pointer (some ⟨q.q,0,none⟩),.int .i64 mo] w fun e w'=> ∃v,e= .returned v∧Eg (N+1) w0 w' c a q (ZI Z N (YP 75 2 v k (Jl (s.pt.take k)))) { s with pt:=s.pt.drop k} L∧w.heap.size≤w'.heap.size:=by
 have hN:=h.low;have HG:=Za h.tlen;have Dt:=cS k Ze w;obtain ⟨n,hn⟩ : ∃n,s.pt.length=n:=⟨_,rfl⟩;rw [hn] at hl hk HG;have lR:(if(n:Int)< mo then(n:Int) else mo)=(k:Int):=by split <;> omega
 have dI:min mo (n:Int)=(k:Int):=by omega
 have HA:Hid ((s.pt.take k).length=k):=Za N5;have H0:Hid (Eg (N+1) w0 (w.alloc (.cells (Jl (ZF k L8)).toArray 75)) c a q (ZI Z N (YR w.heap.size 75 (Jl (Ke (s.pt.take k) L8 0)).toArray)) { s with pt:=s.pt.drop 0} L):=Za (by
  have:=h.box (Jl (ZF k L8)).toArray 75;rw [MA,HA.out];exact this)
 have yY:Hid (w.heap.size≤(w.alloc (.cells (Jl (ZF k L8)).toArray 75)).heap.size):=Za ZO;have HN:=Za hN;have HV:=Za (Zl hn (Zl hk hl));have vY:k≤100000:=by omega
 clear h hn hN h0 hl hk;go_enter Tryz.func265,Tryz.ntmps265;go_wp2_with fail;refine HG.out.mono ?_;rintro e w2 ⟨rfl,rfl⟩;clear HG;go_wp2_with fail;clear Dt lR dI;generalize hz:w.heap.size=z at*;have HZZ:=Za hz;clear hz;generalize w.alloc (.cells (Jl (ZF k L8)).toArray 75)=W at*;go_loopw [14] (fun s14 wr=> ∃(j:Nat),j≤k∧s14= .int .i64 j∧Hid (Eg (N+1) w0 wr c a q (ZI Z N (YR z 75 (Jl (Ke (s.pt.take k) L8 j)).toArray)) { s with pt:=s.pt.drop j} L)∧Hid (z≤wr.heap.size)) (fun s14 _=>k -(intOf s14).toNat)
 case atStart=>exact ⟨0,by omega,rfl,H0,yY⟩
 case round=>
  obtain ⟨j,hj,rfl,HE,HZ⟩:=hrel
  by_cases XJ:j < k
  ·obtain ⟨p,hp⟩ : ∃p,s.pt[j]?=some p:=⟨_,Zf (by rw [HV.out.1]; have:=HV.out.2.1; omega)⟩;have HP:Hid ((s.pt.take k)[j]?=some p):=Za j4;have HD:Hid (s.pt.drop j=p::s.pt.drop (j+1)):=Za (Kl .. |>.trans (by rw [hp]; rfl));have HG:=Za (HE.out.tpop (p:=p) (rest:=s.pt.drop (j+1)) HD.out);clear hp;go_wp2_with fail;refine HG.out.mono ?_;rintro e w2 ⟨rfl,h2,hle⟩;have hB:=h2.blkAt (r:=N) HN.out Ze xput_same;have Gm:=h2.tstore (r:=N) HN.out Ze xput_same HP.out;rw [Xg] at Gm;have tD:=Za Gm;have zf:Hid (z≤(w2.setCells z (j*2) (ZG p).toList).heap.size):=Za (by
    have h3:=(QC (ZG p).toList (j*2) w2 (ZM (fun i=>i=z) w2) (.inl rfl)).size;have:=HZ.out;omega)
   clear h2 hle hB Gm HG HE HZ HD HP;go_wp2_with (first | (refine wpList_store_mid rfl 75 _ _ rfl z (j*2) (ZG p) rfl rfl tD.out.1 Qy (Kn p) ?_));have H4:=Za tD.out.2;clear tD;generalize w2.setCells z (j*2) (ZG p).toList=W4 at*;exact ZgZ
  ·obtain rfl:j=k:=by omega
   clear XJ;have XJ: ¬j < j:=by omega
   have H7:Hid (Eg (N+1) w0 wr c a q (ZI Z N (YP 75 2 (.slice (some ⟨z,0,none⟩) j j) j (Jl (s.pt.take j)))) { s with pt:=s.pt.drop j} L):=Za (by
    have h1:=HE.out;have hA:=HA.out;have h3:Ke (s.pt.take j) L8 j=s.pt.take j:=by
     have:=Ox (A:=s.pt.take j) (z:=L8);rwa [hA] at this
    rw [h3] at h1;have h2:=h1.torow (r:=N) (k:=2) (n:=j) HN.out Ze xput_same (by rw [FD,hA]) jW;rwa [Xg] at h2)
   exact sN
theorem pj (h:Eg N w0 w c a q Z s L){mo:Int}(h0:0≤mo)(hl:s.pt.length≤100000){k:Nat}(hk:min mo.toNat s.pt.length=k) :
  Zi Zb 217 #[.pointer (some ⟨q.e,27,none⟩),.int .i64 mo] w fun e w'=> ∃v,e= .returned v∧Eg (N+1) w0 w' c a q (ZI Z N (YP 75 2 v k (Jl (s.pt.take k)))) { s with pt:=s.pt.drop k} L∧w.heap.size≤w'.heap.size:=by
 have y0:w.cell? ⟨q.e,29,none⟩=some (.pointer (some ⟨q.q,0,none⟩)):=h.blk.cell 29;have H:=Za (ll h h0 hl hk);clear h h0 hl hk;go_enter Tryz.func217,Tryz.ntmps217;exact ZgK
end
end
section
open Go Go.RowKit Go.Deep
section
variable {P:Program} {ops:Array Oper} {rest:List Oper} {op:Oper} {a:Act}
theorem DE {C:Zc→Prop}{Qa:Act→Prop}(ty:TypeId)(x:Operand)(b o:Nat)(cs:List Value)(d:TypeDesc)(hw:Xc op (yielded ops a.tmps)=true)(ho:op.op= .load ty x)(hx:a.eval x= .pointer (some ⟨b,o,none⟩))
  (hC: ∀w,C w→w.rangeAt b o cs) (hu:P.underlying ty=some d) (hd:d.isRow=true) (hi:(P.info? ty).map (·.size)=some cs.length)
  (h:ZB P ops C Qa rest (a.put op.dst (.agg cs.toArray))) :ZB P ops C Qa (op::rest) a:=by
 unfold ZB;rw [if_pos hw];refine ⟨_,fun w hc=>?_,h⟩;unfold Oper.quietAt execOp;simp only [ho,hx,Instr.loadAt,Instr.sureAddr,Sem.run_bind,Sem.run_pure,Result.andThen_ok,run_loadVar_mid w b o ty cs d (hC w hc) hu hd hi];exact BV
theorem Pu {C:Zc→Prop}{Qa:Act→Prop}(ty:TypeId)(x:Operand)(b o:Nat)(cs:Array Value)(d:TypeDesc)(hw:Xc op (yielded ops a.tmps)=true)(ho:op.op= .load ty x)(hx:a.eval x= .pointer (some ⟨b,o,none⟩))
  (hC: ∀w,C w→w.rangeAt b o cs.toList) (hu:P.underlying ty=some d) (hd:d.isRow=true) (hi:(P.info? ty).map (·.size)=some cs.size)
  (h:ZB P ops C Qa rest (a.put op.dst (.agg cs))) :ZB P ops C Qa (op::rest) a:=
 DE ty x b o cs.toList d hw ho hx hC hu hd hi h
end
theorem eE (c:Nat→Int)(a:Pl)(q:Ql) :Un c a q=Zk c++ #[.pointer (some ⟨a.c,0,none⟩),.pointer (some ⟨a.r,0,none⟩),.pointer (some ⟨a.l,0,none⟩),.pointer (some ⟨a.k,0,none⟩),.pointer (some ⟨a.n,0,none⟩),.pointer (some ⟨a.m,0,none⟩),.pointer (some ⟨a.u,0,none⟩),.pointer (some ⟨a.p,0,none⟩),.pointer (some ⟨q.d,0,none⟩),.pointer (some ⟨q.q,0,none⟩)]:=rfl
theorem LF {w:Zc}{c:Nat→Int}{a:Pl}{q:Ql}(h:Zy w q.e 107 (Un c a q)) :w.rangeAt q.e 0 (Zk c).toList:=fun j v hj=>by
 have hl:j < (Zk c).size:=by have:=(Zh.1 hj).1; simpa using this
 rw [h.cell,Nat.zero_add,eE,Array.getElem?_append_left hl,←Array.getElem?_toList];exact hj
section
variable {N:Nat} {w0:Ez} {w:Zc} {c:Nat→Int} {a:Pl} {q:Ql} {Z:Nat→Zc→(Nat→Prop)→Prop} {s:Sg} {L:List QO} {b:Nat} {o:Oq}
theorem Eg.x0 (h:Eg N w0 w c a q Z s L) :w.cell? ⟨q.e,0,none⟩=some (.int .i64 (c 0)):=h.blk.cell 0
theorem Eg.x2 (h:Eg N w0 w c a q Z s L) :w.cell? ⟨q.e,2,none⟩=some (.int .u64 (c 2)):=h.blk.cell 2
theorem Eg.x3 (h:Eg N w0 w c a q Z s L) :w.cell? ⟨q.e,3,none⟩=some (.int .u64 (c 3)):=h.blk.cell 3
theorem Eg.x16 (h:Eg N w0 w c a q Z s L) :w.cell? ⟨q.e,16,none⟩=some (.int .i64 (c 16)):=h.blk.cell 16
theorem Eg.x17 (h:Eg N w0 w c a q Z s L) :w.cell? ⟨q.e,17,none⟩=some (.int .i64 (c 17)):=h.blk.cell 17
theorem Eg.x21 (h:Eg N w0 w c a q Z s L) :w.cell? ⟨q.e,21,none⟩=some (.pointer (some ⟨a.r,0,none⟩)):=h.blk.cell 21
theorem Eg.x22 (h:Eg N w0 w c a q Z s L) :w.cell? ⟨q.e,22,none⟩=some (.pointer (some ⟨a.l,0,none⟩)):=h.blk.cell 22
theorem Eg.x24 (h:Eg N w0 w c a q Z s L) :w.cell? ⟨q.e,24,none⟩=some (.pointer (some ⟨a.n,0,none⟩)):=h.blk.cell 24
theorem Eg.x27 (h:Eg N w0 w c a q Z s L) :w.cell? ⟨q.e,27,none⟩=some (.pointer (some ⟨a.p,0,none⟩)):=h.blk.cell 27
theorem Of.k0 (h:Of N w0 w c a q Z s L b o)(hN:11≤N) :w.cell? ⟨b,0,none⟩=some (.int .i64 o.kd):=(h.op hN).cell 0
theorem Of.k1 (h:Of N w0 w c a q Z s L b o)(hN:11≤N) :w.cell? ⟨b,1,none⟩=some (.int .i64 o.ix):=(h.op hN).cell 1
theorem Of.k2 (h:Of N w0 w c a q Z s L b o)(hN:11≤N) :w.cell? ⟨b,2,none⟩=some (.int .i64 o.tg):=(h.op hN).cell 2
theorem Of.k3 (h:Of N w0 w c a q Z s L b o)(hN:11≤N) :w.cell? ⟨b,3,none⟩=some (.int .u64 o.am):=(h.op hN).cell 3
end
def rcP (r:Rp) :Rc:=⟨r.kd,r.cd,r.ix,r.bl,r.ep,r.dl,none,0,0,none,0,0,r.vs⟩
def uQ (N:Nat)(w0:Ez)(c:Nat→Int)(a:Pl)(q:Ql)(Z:Nat→Zc→(Nat→Prop)→Prop)(x:Rp × Sg)(L:List QO)(e:Ending)(w:Zc) :Prop:=e= .returned (.agg (Zz (rcP x.1)))∧Eg N w0 w c a q Z x.2 L
end
section
open Go Go.RowKit Go.Deep
theorem Nn {c:Nat→Int}{s:Sg}{o:Oq}{k:Int}(h:Nl c s o.am=k)(hk:k≠0) :DR c s o=(UN s o.kd k,s):=by unfold DR; rw [h,if_neg hk]
theorem o4 {c:Nat→Int}{s:Sg}{o:Oq}(h:Nl c s o.am=0) :DR c s o=(Fj s o.kd s.V.length (-1),Hn s o.am):=by unfold DR; rw [if_pos h]
theorem Inv.fits06 {c:Nat→Int}{k:Nat}{s:Sg}(hc:GE c)(h:Inv c k s) :JA s.D s.P s.B (c 4):=by
 have h0:=h.total hc;have h1:=h.sum;have h2:=h.p0;have h3:=h.b0;have h4:=h.d1;have h5:=h.cap;have h6:=hc.a4;have h7:=hc.a2;have h8:=hc.a23;have h9:=hc.a3;unfold JA;omega
section
variable {N:Nat} {w0:Ez} {w w' w1:Zc} {c:Nat→Int} {a:Pl} {q:Ql} {Z:Nat→Zc→(Nat→Prop)→Prop} {s s':Sg} {L L':List QO} {k:Nat}
theorem o9 (hc:GE c)(hi:Inv c k s)(hk:k≤1000000)(h:Eg N w0 w c a q Z s L)(o:Oq)(ho:Kg o) :Zi Zb 83 #[.pointer (some ⟨q.e,0,none⟩),.agg (ZJ o)] w (uQ N w0 c a q Z (DR c s o) L):=by
 have hN:=h.low;have hO:=Dz h o;have HT:=Za (hi.tm hc hk);have HN:=Za hN;have HC:=Za hc;have HI:=Za hi;have HF:=Za ho;clear hc hi ho hN h;go_enter Tryz.func83,Tryz.ntmps83;go_upto_region 1 with (fail);generalize hW:(w.alloc (.cells (ZJ o) 37)).alloc (.cells _ 42)=W;have eW:(w.alloc (.cells (ZJ o) 37)).alloc (.cells (Zz Gb) 42)=W:=hW;rw [eW] at hO;generalize w.heap.size=b at*;have k3:=Of.k3 hO HN.out;have x2:=Eg.x2 hO;have x3:=Eg.x3 hO;have HO:=Za hO;clear hW eW hO
 by_cases h1:o.am < c 2
 ·have HE:Hid (DR c s o=(UN s o.kd 3,s)):=Za (Nn (by unfold Nl; exact if_pos (.inl h1)) Xh);clear HI HF HC;go_quiet (fail);have HD:Hid (Of N w0 (W.drewN nq) c a q Z s L b o):=Za (Kc HO.out nq);clear HO k3 x2 x3;generalize W.drewN nq=V at*;exact Zf5
 by_cases h2:c 3 < o.am
 ·have HE:Hid (DR c s o=(UN s o.kd 3,s)):=Za (Nn (by unfold Nl; exact if_pos (.inr h2)) Xh);clear HI HF HC;have d1:decide (o.am < c 2)=false:=decide_eq_false h1;have d2:decide (c 3 < o.am)=true:=decide_eq_true h2;clear h1 h2;go_quiet (fail);have Wb:Hid (Of N w0 (W.drewN nq) c a q Z s L b o):=Za (Kc HO.out nq);generalize W.drewN nq=W1 at*;have k3:=Of.k3 Wb.out HN.out;have x2:=Eg.x2 Wb.out;have x3:=Eg.x3 Wb.out;go_wp2_with fail;go_quiet (fail);have HD:Hid (Of N w0 (W1.drewN nq) c a q Z s L b o):=Za (Kc Wb.out nq);clear HO Wb k3 x2 x3;generalize W1.drewN nq=V at*;exact Zf5
 have d1:decide (o.am < c 2)=false:=decide_eq_false h1;have d2:decide (c 3 < o.am)=false:=decide_eq_false h2;have We: ¬(o.am < c 2∨c 3 < o.am):=by rintro (h | h)<;> omega
 clear h1 h2;go_quiet (fail);have Wb:Hid (Of N w0 (W.drewN nq) c a q Z s L b o):=Za (Kc HO.out nq);clear HO k3 x2 x3;generalize W.drewN nq=W1 at*;have k3:=Of.k3 Wb.out HN.out;have x2:=Eg.x2 Wb.out;have x3:=Eg.x3 Wb.out;go_wp2_with fail;go_quiet (fail);have Oi:Hid (Of N w0 (W1.drewN nq) c a q Z s L b o):=Za (Kc Wb.out nq);clear Wb k3 x2 x3 d1 d2;generalize W1.drewN nq=W2 at*;go_wp2_with fail;have x21:=Eg.x21 Oi.out;have x0:=Eg.x0 Oi.out;have HLn:Hid (∀m,Zi Zb 119 #[.pointer (some ⟨a.r,0,none⟩)] (W2.drewN m) fun e w'=>e= .returned (.int .i64 s.V.length)∧W2.drewN m=w'):=Za (fun m=>by
  obtain ⟨X,hX,VP,hh,_⟩:=Eg.open (Kc Oi.out m);exact hh.len VP)
 obtain ⟨n,hn⟩ : ∃n,s.V.length=n:=⟨_,rfl⟩;rw [hn] at HLn;have HNn:=Za hn
 by_cases h3:(n:Int)=c 0
 ·have HE:Hid (DR c s o=(UN s o.kd 5,s)):=Za (Nn (by unfold Nl; rw [if_neg We,if_pos (by rw [hn]; omega)]) Xh);have d3:((n:Int)==c 0)=true:=by simp [h3]
  clear h3 We HI HF HC hn;go_quiet ((go_at_call 119; exact GJ (HLn.out _)));have HD:Hid (Of N w0 (W2.drewN nq) c a q Z s L b o):=Za (Kc Oi.out nq);clear Oi x21 x0 HLn HNn;generalize W2.drewN nq=V at*;have Vv:=Za (Km HD.out HN.out);go_wp2_with (first | (refine Zn rfl 37 _ rfl b rfl 37 _ (0,0) _ Vv.out ZS rfl XV ?_));refine (Vf (N:=N+2) HD.out HT.out o 5).mono ?_;rintro e w9 ⟨rfl,h9⟩;have H9:Hid (Of N w0 w9 c a q Z s L b o):=Za h9;have Vs:=Za (VS h9 HN.out);clear h9 Vv HD;go_wp2_with (first | (refine Zm rfl _ _ _ rfl (b+1) (Zz (VN o.kd 5 s.bk s.ep)) rfl rfl 42 _ Vs.out YS rfl (YC _) ?_));exact ZL (v:= .agg (Zz (VN o.kd 5 s.bk s.ep))) (ZU (fn:=Tryz.f83) rfl _ _ (b+1) 42 _ (0,0) _ rfl (Yc _ _ _ _ _ _ Vs.out) Yf rfl YS) rfl (Zl JP KH)
 have d3:((n:Int)==c 0)=false:=by simp [h3]
 have h3': ¬c 0≤(s.V.length:Int):=by have:=HI.out.len; rw [hn] at this ⊢; omega
 clear h3 hn;go_quiet ((go_at_call 119; exact GJ (HLn.out _)));have P3:Hid (Of N w0 (W2.drewN nq) c a q Z s L b o):=Za (Kc Oi.out nq);clear Oi x21 x0 HLn d3;generalize W2.drewN nq=W3 at*;have x27:=Eg.x27 P3.out;have HFr:Hid (Zi Zb 120 #[.pointer (some ⟨a.p,0,none⟩)] W3 fun e w'=>e= .returned (.int .i64 (((c 1).toNat - s.pd.length:Nat) :Int))∧ ∃m,w'=W3.drewN m):=Za (by
  obtain ⟨X,hX,VP,hh,_⟩:=Eg.open P3.out;exact hh.pfree VP)
 obtain ⟨f,hf⟩ : ∃f:Nat,(c 1).toNat - s.pd.length=f:=⟨_,rfl⟩;rw [hf] at HFr
 by_cases h4:c 1≤(s.pd.length:Int)
 ·have HE:Hid (DR c s o=(UN s o.kd 6,s)):=Za (Nn (by unfold Nl; rw [if_neg We,if_neg h3',if_pos h4]) Xh);obtain rfl:f=0:=by omega
  clear h4 h3' We HI HF HC hf;go_wp2_with fail;refine HFr.out.mono ?_;rintro e w' ⟨rfl,m,rfl⟩;have HD:Hid (Of N w0 (W3.drewN m) c a q Z s L b o):=Za (Kc P3.out m);clear P3 x27 HFr HNn;generalize W3.drewN m=V at*;have Vv:=Za (Km HD.out HN.out);go_wp2_with (first | (refine Zn rfl 37 _ rfl b rfl 37 _ (0,0) _ Vv.out ZS rfl XV ?_));refine (Vf (N:=N+2) HD.out HT.out o 6).mono ?_;rintro e w9 ⟨rfl,h9⟩;have H9:Hid (Of N w0 w9 c a q Z s L b o):=Za h9;have Vs:=Za (VS h9 HN.out);clear h9 Vv HD;go_wp2_with (first | (refine Zm rfl _ _ _ rfl (b+1) (Zz (VN o.kd 6 s.bk s.ep)) rfl rfl 42 _ Vs.out YS rfl (YC _) ?_));exact ZL (v:= .agg (Zz (VN o.kd 6 s.bk s.ep))) (ZU (fn:=Tryz.f83) rfl _ _ (b+1) 42 _ (0,0) _ rfl (Yc _ _ _ _ _ _ Vs.out) Yf rfl YS) rfl (Zl JP KH)
 have hfp:((f:Int)==0)=false:=by simp; omega
 clear hf;go_wp2_with fail;refine HFr.out.mono ?_;rintro e w' ⟨rfl,m,rfl⟩;have PK:Hid (Of N w0 (W3.drewN m) c a q Z s L b o):=Za (Kc P3.out m);clear P3 x27 HFr;generalize W3.drewN m=W4 at*;have h4': ¬c 1≤(s.pd.length:Int):=by omega
 have fa:=HF.out.2.2.2;have a0:0≤o.am:=(bounds_u64 fa).1;have a1:o.am≤18446744073709551615:=(bounds_u64 fa).2;have hF6:JA s.D s.P s.B (c 4):=Inv.fits06 HC.out HI.out;go_wp2_with fail;have hOD:Of N w0 W4.drew c a q Z s L b o:=Eg.drew PK.out
 by_cases h5:c 4 -(s.D - s.P - s.B)< o.am∨(o.am≤c 4 -(s.D - s.P - s.B)∧18446744073709551615 < s.D+o.am)
 ·obtain ⟨kk,qe⟩ : ∃kk:Int,(if c 4 -(s.D - s.P - s.B)< o.am then 4 else 10)=kk:=⟨_,rfl⟩;have HE:Hid (DR c s o=(UN s o.kd kk,s)):=Za (Nn (by
   unfold Nl;rw [if_neg We,if_neg Ze,if_neg Ze,←qe]
   rcases h5 with h5 | ⟨h5,h6⟩
   ·rw [if_pos h5,if_pos h5]
   ·rw [if_neg Ze,if_pos h6,if_neg Ze]) (by rw [←qe]; split <;> decide))
  have dk:(kk != 0)=true:=by rw [←qe]; split <;> rfl
  have HA:=Za (vy (N:=N+2) hOD hF6 a0 a1 h5);rw [qe] at HA;have HO5:=Za hOD;clear We h3' h4' h4 h5 fa a0 a1 hF6 qe HI HF HC hfp HNn hOD;refine MZ (fun w'=>Zy w' b 37 (ZJ o)) 10 5 [0,1,2,3,4] (?_) ?_
  ·exact HO5.out.op HN.out
  simp only [qF,qH];show ZB _ _ _ _ [_,_,_,_,_] _;iterate 4 (go_big_quiet_step ((intros; rfl)))
  refine Yw _ _ ⟨b,3,none⟩ (.int .u64 o.am) rfl rfl rfl (fun w h=>by simp [go_sem,h]) (fun w h=>h.cell 3) ?_;simp only [qB];refine Zj ?_;clear PK;generalize W4.drew=V at*;refine Qt (i:=5) ?_;try simp only [qA]
  refine JM #[.pointer (some ⟨q.e,21,none⟩),.int .u64 o.am] Tryz.call121 ((HA.out).mono ?_);rintro e w2 ⟨rfl,hb⟩;have HD:Hid (Of N w0 w2 c a q Z s L b o):=Za (Eg.below HO5.out hb);refine ⟨_,rfl,HD.out.op HN.out,?_⟩;clear hb HA HO5;try simp only [qA]
  refine Wv (fun w'=>Zy w' b 37 (ZJ o)) (m:=4) (f:=0) [6,7,8,9] (?_) ?_
  ·exact HD.out.op HN.out
  simp only [qF,qH];show ZB _ _ _ _ [_,_,_,_] _;iterate 4 (go_big_quiet_step ((intros; rfl)))
  refine Zj ?_;show YH _ _ _ _ _=true∧_;refine ⟨by kernel_rfl,?_⟩;simp only [qA];go_wp2_with fail;refine ZH ?_;have Vv:=Za (Km HD.out HN.out);go_wp2_with (first | (refine Zn rfl 37 _ rfl b rfl 37 _ (0,0) _ Vv.out ZS rfl XV ?_));refine (Vf (N:=N+2) HD.out HT.out o kk).mono ?_;rintro e w9 ⟨rfl,h9⟩;have H9:Hid (Of N w0 w9 c a q Z s L b o):=Za h9;have Vs:=Za (VS h9 HN.out);clear h9 Vv HD;go_wp2_with (first | (refine Zm rfl _ _ _ rfl (b+1) (Zz (VN o.kd kk s.bk s.ep)) rfl rfl 42 _ Vs.out YS rfl (YC _) ?_));exact ZL (v:= .agg (Zz (VN o.kd kk s.bk s.ep))) (ZU (fn:=Tryz.f83) rfl _ _ (b+1) 42 _ (0,0) _ rfl (Yc _ _ _ _ _ _ Vs.out) Yf rfl YS) rfl (Zl JP KH)
 ·have HE:Hid (DR c s o=(Fj s o.kd s.V.length (-1),Hn s o.am)):=Za (o4 (by
   unfold Nl;rw [if_neg We,if_neg Ze,if_neg Ze,if_neg Ze,if_neg Ze]))
  have HA:=Za (Zit (N:=N+2) hOD hF6 a0 a1 Ze Ze Ze (by have:=HI.out.total HC.out; have:=HI.out.sum; have:=HI.out.p0; have:=HI.out.b0; omega));have kA:Hid (Tm c (Hn s o.am)):=Za ⟨HT.out.b0,HT.out.b1,HT.out.l,HT.out.q⟩;have HO5:=Za hOD;have HPl:Hid ((s.pd.length:Int)< c 1):=Za Ze;rw [HNn.out] at HA;clear We h3' h4' h4 h5 fa a0 a1 hF6 HI HF HC hfp hOD;refine MZ (fun w'=>Zy w' b 37 (ZJ o)) 10 5 [0,1,2,3,4] (?_) ?_
  ·exact HO5.out.op HN.out
  simp only [qF,qH];show ZB _ _ _ _ [_,_,_,_,_] _;iterate 4 (go_big_quiet_step ((intros; rfl)))
  refine Yw _ _ ⟨b,3,none⟩ (.int .u64 o.am) rfl rfl rfl (fun w h=>by simp [go_sem,h]) (fun w h=>h.cell 3) ?_;simp only [qB];refine Zj ?_;clear PK;generalize W4.drew=V at*;refine Qt (i:=5) ?_;try simp only [qA]
  refine JM #[.pointer (some ⟨q.e,21,none⟩),.int .u64 o.am] Tryz.call121 ((HA.out).mono ?_);rintro e w2 ⟨rfl,hb⟩;have HD:Hid (Of N w0 w2 c a q Z { s with V:=s.V++[MJ o.am],D:=s.D+o.am} L b o):=Za hb;refine ⟨_,rfl,HD.out.op HN.out,?_⟩;clear hb HA HO5;try simp only [qA]
  refine Wv (fun w'=>Zy w' b 37 (ZJ o)) (m:=4) (f:=0) [6,7,8,9] (?_) ?_
  ·exact HD.out.op HN.out
  simp only [qF,qH];show ZB _ _ _ _ [_,_,_,_] _;iterate 4 (go_big_quiet_step ((intros; rfl)))
  refine Zj ?_;show YH _ _ _ _ _=true∧_;refine ⟨by kernel_rfl,?_⟩;simp only [qA];go_wp2_with fail;refine ZH ?_;have x27:=Eg.x27 HD.out;have WN:Hid (Zi Zb 122 #[.pointer (some ⟨a.p,0,none⟩),.slice (some ⟨w2.heap.size,0,none⟩) 1 1] (w2.alloc (.cells #[.int .i64 (n:Int)] 3)) fun e w'=>e= .returned (.int .i64 1)∧Of N w0 w' c a q Z (Hn s o.am) L b o):=Za (by
   obtain ⟨X,hX,VP,hh,hK,_⟩:=Eg.open HD.out;refine (hh.ppush hX VP (x:=(n:Int)) HPl.out).mono fun e w' ⟨he,h1,_⟩=>⟨he,?_⟩
   have h2:=hK _ _ _ h1 rfl rfl;unfold Hn;rw [HNn.out];exact h2)
  clear HD;go_wp2_with fail;refine WN.out.mono ?_;rintro e w5 ⟨rfl,h5⟩;have HD:=Za h5;clear h5 WN x27;rw [HNn.out] at HE;have Vv:=Za (Km HD.out HN.out);have lZ:=Of.k1 HD.out HN.out;go_wp2_with (first | (refine Zn rfl 37 _ rfl b rfl 37 _ (0,0) _ Vv.out ZS rfl XV ?_));refine (DW (N:=N+2) HD.out kA.out o (n:Int) (-1)).mono ?_;rintro e w9 ⟨rfl,h9⟩;have H9:Hid (Of N w0 w9 c a q Z (Hn s o.am) L b o):=Za h9;have Vs:=Za (VS h9 HN.out);clear h9 Vv HD lZ;go_wp2_with (first | (refine Zm rfl _ _ _ rfl (b+1) (Zz (Bn o.kd (n:Int) (-1) s.bk s.ep)) rfl rfl 42 _ Vs.out YS rfl (YC _) ?_));exact ZL (v:= .agg (Zz (Bn o.kd (n:Int) (-1) s.bk s.ep))) (ZU (fn:=Tryz.f83) rfl _ _ (b+1) 42 _ (0,0) _ rfl (Yc _ _ _ _ _ _ Vs.out) Yf rfl YS) rfl (Zl JP KH)
end
end
section
open Go Go.RowKit Go.Deep
theorem sB {V:List Yd}{n:Nat}{v:Yd}(h:V[n]?=some v) :wV V (n:Int)=v.bal:=by
 have hl:=(Zh.1 h).1;unfold wV Kz;rw [if_pos ⟨by omega,by unfold Q0; rw [YM]; omega⟩,Int.toNat_natCast,Zq];unfold Q0;rw [ZR,h]; rfl
theorem AP: ∀(I:List Int) (V:List Yd),(∀v ∈ V,Yq v)→I.Nodup→(∀i ∈ I,∃n:Nat,i=(n:Int)∧n < V.length)→XT (I.map (wV V)) I.length≤ZA V
 | [],V,hf,_,_=>total_nonneg hf
 | i::I,V,hf,hn,hI=>by
  obtain ⟨h1,h2⟩:=List.nodup_cons.1 hn;obtain ⟨n,rfl,hnl⟩:=hI i ZO;have hv:V[n]?=some (V[n]):=Zf hnl;generalize V[n]=v at hv;have vX:=hf v (QI hv);have hf': ∀x ∈ V.set n { v with bal:=0},Yq x:=Gv hf ⟨rfl,vX.2⟩;have ih:=AP I (V.set n { v with bal:=0}) hf' h2 (fun j hj=>by
   obtain ⟨m,e,hm⟩:=hI j LW;exact ⟨m,e,by rw [List.length_set]; exact hm⟩)
  have hm:I.map (wV (V.set n { v with bal:=0}))=I.map (wV V):=List.map_congr_left fun j hj=>by
   obtain ⟨m,rfl,hm⟩:=hI j LW;have Kt:n≠m:=fun e=>h1 (by rw [e]; exact hj)
   have hu:V[m]?=some (V[m]):=Zf hm;rw [sB hu,sB (v:=V[m]) (by rw [List.getElem?_set_ne Kt]; exact hu)]
  rw [hm,total_set hv] at ih;rw [List.map_cons,List.length_cons,Bz,sB hv];simp only at ih;omega
theorem Oj (F W:List Int)(cl:Int) :(Kw F W cl).Sublist (F++W):=by
 unfold Kw
 split
 ·exact List.sublist_append_left _ _
 ·split
  ·exact List.Sublist.refl _
  ·exact List.nil_sublist _
section
variable {N:Nat} {w0:Ez} {w w' w1:Zc} {c:Nat→Int} {a:Pl} {q:Ql} {Z:Nat→Zc→(Nat→Prop)→Prop} {s s':Sg} {L L':List QO} {k:Nat}
theorem Inv.ahead (hc:GE c)(h:Inv c k s)(cl:Int) :G9 ((Kw s.F s.W cl).map (wV s.V)) (Kw s.F s.W cl).length=true∧BQ (EG ((Kw s.F s.W cl).map (wV s.V)) (Kw s.F s.W cl).length):=by
 have h1:=AP (Kw s.F s.W cl) s.V h.fits (h.lnn.sublist (Oj _ _ _)) (fun i hi=>by
  obtain ⟨m,u,e,hu,_⟩:=h.lnx i ((Oj _ _ _).subset hi);exact ⟨m,e,(Zh.1 hu).1⟩)
 have h2:=h.total hc;have h3:0≤XT ((Kw s.F s.W cl).map (wV s.V)) (Kw s.F s.W cl).length:=Bh (fun i=>by
  rw [Zq,ZR]
  cases (Kw s.F s.W cl)[i]? with
  | none=>exact Int.le_refl _
  | some x=>exact AV h.fits x) _
 have h4:XT ((Kw s.F s.W cl).map (wV s.V)) (Kw s.F s.W cl).length≤18446744073709551615:=by omega
 obtain ⟨h5,h6⟩:=Fl h4;exact ⟨h5,by rw [h6]; exact ⟨h3,h4⟩⟩
theorem MI (x:Option Int) :KB x= .tuple #[.int .i64 (x.getD 0),.bool x.isSome]:=by cases x <;> rfl
theorem Zbn (hc:GE c)(h:Inv c k s)(cl:Int)(v:Yd) :fT (EG ((Kw s.F s.W cl).map (wV s.V)) (Kw s.F s.W cl).length) v.bal c s.ep=Ou c s cl v:=by
 rw [xi hc.g];unfold Ou;rw [if_pos (h.ahead hc cl).1]
theorem pr (hc:GE c)(hi:Inv c k s)(hk:k≤1000000)(h:Eg N w0 w c a q Z s L){v:Yd}(hv:Yq v)(cl:Int) :
  Zi Zb 185 #[.pointer (some ⟨q.e,0,none⟩),.agg (Zd v),.int .i64 cl] w fun e w'=>e= .returned (KB (Ou c s cl v))∧Eg N w0 w' c a q Z s L:=by
 have hN:=h.low;have h1:=h.box (Zd v) 63;have hB0:Hid (Zy (w.alloc (.cells (Zd v) 63)) w.heap.size 63 (Zd v)):=Za (Zy.new _ _ _);obtain ⟨t0,t1,t2,t3⟩:=hi.tm hc hk;have hln:s.V.length≤4096:=by have:=hi.len; have:=hc.g.cap1; omega
 have H1:=Za h1;have HN:=Za hN;obtain ⟨A,hA⟩ : ∃A,Kw s.F s.W cl=A:=⟨_,rfl⟩;obtain ⟨x,hx⟩ : ∃x,EG (A.map (wV s.V)) A.length=x:=⟨_,rfl⟩;have Ze9:BQ x:=by have:=(hi.ahead hc cl).2; rw [hA,hx] at this; exact this
 have ZbJ:=Zbn hc hi cl v;rw [hA,hx] at ZbJ;have HDue:=Za ZbJ;have HP:=Za (fun w=>mz hc.g Ze9 (show BQ v.bal from bounds_u64 hv.1) s.ep w);have zv:A.length≤100000:=by
  have h3:=(Oj s.F s.W cl).length_le;rw [hA,List.length_append] at h3;have:=hi.fl; have:=hi.wl; have:=hc.q1; omega
 have HFi:=Za hi.fits;have HX:=Za (Zl hA (Zl hx (Zl zv hln)));have HT:=Za (Zl t0 (Zl t1 (Zl t2 t3)));clear hc hi hk h h1 hv hN hA hx Ze9 ZbJ zv hln t0 t1 t2 t3;go_enter Tryz.func185,Tryz.ntmps185;go_upto_region 1 with (fail);generalize w.alloc (.cells (Zd v) 63)=W at*;generalize hz:w.heap.size=b at*;clear hz;have uA:=Za (zm (Eg.drew H1.out) (by have:=HX.out.2.2.2; omega));refine MZ (fun w'=>Zy w' q.e 107 (Un c a q)) 16 7 [0,1,2,4,5,6,7,8,9] (?_) ?_
 ·exact (Eg.drew H1.out).blk
 simp only [qF,qH];show ZB _ _ _ _ [_,_,_,_,_,_,_,_,_] _;iterate 7 (go_big_quiet_step ((intros; rfl)))
 refine Yw _ _ ⟨q.e,24,none⟩ (.pointer (some ⟨a.n,0,none⟩)) rfl rfl rfl (fun w h=>by simp [go_sem,h]) (fun w h=>h.cell 24) ?_;simp only [qB];iterate 1 (go_big_quiet_step ((intros; rfl)))
 refine Zj ?_;generalize W.drew=V at*;refine Qt (i:=3) ?_;try simp only [qA]
 refine JM #[.pointer (some ⟨q.e,21,none⟩)] Tryz.call212 ((uA.out).mono ?_);rintro e w2 ⟨vb,rfl,h2,hle⟩;have H2:=Za h2;refine ⟨_,rfl,h2.blk,?_⟩;clear h2 uA hle;have HAh:Hid (Zi Zb 238 #[.pointer (some ⟨a.n,0,none⟩),.int .i64 cl] w2 fun e w'=> ∃va,e= .returned va∧Eg (N+1+1+1) w0 w' c a q (ZI (ZI (ZI Z N (YR b 63 (Zd v))) (N+1) (YP 22 1 vb s.V.length ((Q0 s.V).map Eu))) (N+1+1) (YP 3 1 va A.length (A.map (Value.int .i64)))) s L):=Za (by
  obtain ⟨X,hX,VP,hh,_,hK,_⟩:=H2.out.open;refine (hh.ahead hX VP cl).mono fun e w' ⟨va,he,g1,_⟩=>⟨va,he,?_⟩
  have g2:=hK _ _ _ _ g1 stays_row rfl rfl;rw [HX.out.1] at g2;exact g2)
 refine Qt (i:=10) ?_;try simp only [qA]
 refine JM #[.pointer (some ⟨a.n,0,none⟩),.int .i64 cl] Tryz.call238 ((HAh.out).mono ?_);rintro e w3 ⟨va,rfl,h3⟩;have H3:=Za h3;refine ⟨_,rfl,h3.blk,?_⟩;clear h3 HAh H2;have HWt:Hid (Zi Zb 237 #[vb,va] w3 fun e w'=> ∃bb,e= .returned (.tuple #[.int .u64 x,.bool bb])∧Below w3.heap.size w3 w'):=Za (by
  have r1:=H3.out.row (r:=N+1) ZQ Ze Ua;have r2:=H3.out.row (r:=N+1+1) ZQ Ze xput_same;obtain ⟨ia,ic,rfl,wg,_,_,hia⟩:=VK (S:=fun _=>False) r2 (fun _ _ h=>h);obtain ⟨ua,uc,rfl,qf,_,hua⟩:=Fm (S:=fun _=>False) (L:=Q0 s.V) r1 (fun _ _ h=>h);have:=dw (cap:=uc) (ic:=ic) hua (by rw [qf]; have:=HX.out.2.2.2; omega) (fun j=>RU HFi.out j) hia HX.out.2.2.1;rw [qf] at this;exact this.mono fun e w' ⟨he,hb⟩=>⟨G9 (A.map (wV s.V)) A.length,by rw [he,←HX.out.2.1]; rfl,hb⟩)
 refine Qt (i:=11) ?_;try simp only [qA]
 refine JM #[vb,va] Tryz.call237 ((HWt.out).mono ?_);rintro e w4 ⟨bb,rfl,hb⟩;have h4:Eg (N+1) w0 w4 c a q (ZI Z N (YR b 63 (Zd v))) s L:=(((H3.out.below hb).less ZQ).less ZQ).ext fun k h1 h2=>by rw [xput_ne Ze,xput_ne Ze]
 have H4:=Za h4;refine ⟨_,rfl,h4.blk,?_⟩;clear h4 hb HWt H3;try simp only [qA]
 refine Wv (fun w'=>Zy w' q.e 107 (Un c a q)) (m:=4) (f:=0) [12,13,14,15] (?_) ?_
 ·exact H4.out.blk
 simp only [qF,qH];show ZB _ _ _ _ [_,_,_,_] _;iterate 4 (go_big_quiet_step ((intros; rfl)))
 refine Zj ?_;show YH _ _ _ _ _=true∧_;refine ⟨by kernel_rfl,?_⟩;simp only [qA];go_wp2_with fail;refine ZH ?_;go_wp2_with fail;have H5:=Za (H4.out.drew);have uE:=Za (Bc H5.out HT.out.1 HT.out.2.1 HT.out.2.2.1 HT.out.2.2.2);have WM:Hid (Zy w4.drew b 63 (Zd v)):=Za (H5.out.blkAt (r:=N) HN.out Ze xput_same);refine MZ (fun w'=>Zy w' q.e 107 (Un c a q)∧Zy w' b 63 (Zd v)) 14 4 [0,1,2,4,5,6,7,8,9,10] (?_) ?_
 ·exact ⟨H5.out.blk,WM.out⟩
 simp only [qF,qH];show ZB _ _ _ _ [_,_,_,_,_,_,_,_,_,_] _;iterate 5 (go_big_quiet_step ((intros; rfl)))
 refine Yw _ _ ⟨b,0,none⟩ (.int .u64 v.bal) rfl rfl rfl (fun w h=>by simp [go_sem,h]) (fun w h=>h.2.cell 0) ?_;simp only [qB];iterate 3 (go_big_quiet_step ((intros; rfl)))
 refine DE 24 _ q.e 0 (Zk c).toList _ rfl rfl rfl (fun w h=>LF h.1) Tryz.underlying24 rfl Xn ?_;try simp only [qA]
 refine Zj ?_;generalize w4.drew=V4 at*;refine Qt (i:=3) ?_;refine JM #[.pointer (some ⟨q.e,20,none⟩)] J5 ((uE.out).mono ?_);rintro e w5 ⟨rfl,m,rfl⟩;have h6:=H5.out.drewN m;refine ⟨_,rfl,⟨h6.blk,WM.out⟩,?_⟩;have H6:=Za h6;clear h6;refine Qt (i:=11) ?_;try simp only [qA]
 refine JM #[.int .i64 s.ep,.int .u64 x,.int .u64 v.bal,.agg (Zk c)] Tryz.call239 ((HP.out (V4.drewN m)).mono ?_);rintro e w6 ⟨rfl,hb⟩;have h7:=H6.out.below hb;have H7:=Za h7;refine ⟨_,rfl,⟨h7.blk,h7.blkAt (r:=N) HN.out Ze xput_same⟩,?_⟩;clear hb h7 H6 H5 uE WM;rw [HDue.out,MI];try simp only [qA]
 refine Wv (fun w'=>Zy w' q.e 107 (Un c a q)∧Zy w' b 63 (Zd v)) (m:=2) (f:=0) [12,13] (?_) ?_
 ·exact ⟨H7.out.blk,H7.out.blkAt (r:=N) HN.out Ze xput_same⟩
 simp only [qF,qH];show ZB _ _ _ _ [_,_] _;iterate 2 (go_big_quiet_step ((intros; rfl)))
 refine Zj ?_;show YH _ _ _ _ _=true∧_;refine ⟨by kernel_rfl,?_⟩;simp only [qA];go_wp2_with fail;refine ZH ?_;go_wp2_with fail;go_ret2;exact ⟨by rw [MI]; rfl,H7.out.drop HN.out⟩
end
end
section
open Go Go.RowKit Go.Deep
section
variable {N:Nat} {w0:Ez} {w w' w1:Zc} {c:Nat→Int} {a:Pl} {q:Ql} {Z:Nat→Zc→(Nat→Prop)→Prop} {s s':Sg} {L L':List QO} {k:Nat}
theorem CI {o:Oq}{cl kk:Int}(h:iV c s o.ix cl=kk)(hk:kk≠0) :exO c s o cl=(UN s o.kd kk,s):=by unfold exO; rw [h,if_neg hk]
theorem vH {o:Oq}{cl:Int}(h:iV c s o.ix cl=0) :exO c s o cl=(Fj s o.kd o.ix (tI c s o.ix cl),P9 c s o.ix cl):=by unfold exO; rw [if_pos h]
theorem pg (hc:GE c)(hi:Inv c k s)(hk:k≤1000000)(h:Eg N w0 w c a q Z s L)(o:Oq)(ho:Kg o){cl:Int}(Ek:cl=0∨cl=1) :Zi Zb 124 #[.pointer (some ⟨q.e,0,none⟩),.agg (ZJ o),.int .i64 cl] w (uQ N w0 c a q Z (exO c s o cl) L):=by
 have hN:=h.low;have hO:=Dz h o;have HT:=Za (hi.tm hc hk);have HN:=Za hN;have HC:=Za (Zl hc (Zl hi (Zl hk (Zl ho Ek))));have hex:=ZeX hi hk o.ix cl;have uD:=Za hex;obtain ⟨u,hu⟩ : ∃u,(if GI s.V o.ix=true then Z9 else Vy s.V o.ix)=u:=⟨_,rfl⟩;obtain ⟨ok,Og⟩ : ∃ok,(!GI s.V o.ix)=ok:=⟨_,rfl⟩;have HU:=Za (Zl hu Og);have uF:Hid (∀wx,Of N w0 wx c a q Z s L w.heap.size o→Zi Zb 70 #[.pointer (some ⟨a.r,0,none⟩),.int .i64 o.ix] wx fun e w'=>e= .returned (.tuple #[.agg (Zd u),.bool ok])∧Below wx.heap.size wx w'):=Za (fun wx hx=>by
  obtain ⟨X,hX,VP,hh,_⟩:=Eg.open hx
  cases hb:GI s.V o.ix with
  | true=>
   rw [hb] at hu Og;rw [←hu,←Og];exact hh.get_out VP (by simpa [GI] using hb)
  | false=>
   rw [hb] at hu Og;obtain ⟨n,e,hn⟩:=Gg hb;rw [←hu,←Og];have:=hh.get_in VP hn;rw [←e] at this;exact this)
 clear hc hi hk ho Ek hN h hex hu Og;go_enter Tryz.func124,Tryz.ntmps124;go_upto_region 1 with (fail);generalize hW:(w.alloc (.cells (ZJ o) 37)).alloc (.cells _ 42)=W;have eW:(w.alloc (.cells (ZJ o) 37)).alloc (.cells (Zz Gb) 42)=W:=hW;rw [eW] at hO;generalize w.heap.size=b at*;have HO:=Za hO;clear hW eW hO;go_cut [7,8] from 9 to 20 (fun s7 s8 wx=> ∃zb:Nat,s7= .pointer (some ⟨zb,0,none⟩)∧s8= .bool ok∧Hid (Eg (N+2+1) w0 wx c a q (ZI (ZI (ZI Z N (YR b 37 (ZJ o))) (N+1) (YR (b+1) 42 (Zz Gb))) (N+2) (YR zb 63 (Zd u))) s L))
 case first=>
  exact zT1
 case rest=>
  obtain ⟨zb,rfl,rfl,HE⟩:=hcut;clear uF HO
  cases hb:GI s.V o.ix with
  | true=>
   have dL:Hid (exO c s o cl=(UN s o.kd 7,s)):=Za (CI (by rw [uD.out,if_pos hb]) Xh);obtain rfl:ok=false:=by rw [←HU.out.2,hb]; rfl
   have HD:Hid (Of N w0 wc c a q Z s L b o):=Za (HE.out.drop ZQ);have HE:=dL;clear dL uD HU HC hb;have Vv:=Za (Km HD.out HN.out);go_wp2_with (first | (refine Zn rfl 37 _ rfl b rfl 37 _ (0,0) _ Vv.out ZS rfl XV ?_));refine (Vf (N:=N+2) HD.out HT.out o 7).mono ?_;rintro e w9 ⟨rfl,h9⟩;have H9:Hid (Of N w0 w9 c a q Z s L b o):=Za h9;have Vs:=Za (VS h9 HN.out);clear h9 Vv HD;go_wp2_with (first | (refine Zm rfl _ _ _ rfl (b+1) (Zz (VN o.kd 7 s.bk s.ep)) rfl rfl 42 _ Vs.out YS rfl (YC _) ?_));exact ZL (v:= .agg (Zz (VN o.kd 7 s.bk s.ep))) (ZU (fn:=Tryz.f124) rfl _ _ (b+1) 42 _ (0,0) _ rfl (Yc _ _ _ _ _ _ Vs.out) Yf rfl YS) rfl (Zl JP KH)
  | false=>
   obtain rfl:ok=true:=by rw [←HU.out.2,hb]; rfl
   have hu:=HU.out.1;rw [hb] at hu;replace hu:Vy s.V o.ix=u:=hu;obtain ⟨n,hn,bA⟩:=Gg hb;have hex:=uD.out;rw [hb,hu] at hex;replace hex:iV c s o.ix cl=if u.st≠2 then 8 else if c 1≤(UW s.F s.W cl).length then 6 else if Ou c s cl u=none then 10 else 0:=hex
   rw [hu] at bA;have HV:=Za (Zl hn (Zl bA hu));have HX:=Za hex;have y1:wc.cell? ⟨zb,1,none⟩=some (.int .i64 u.st):=(HE.out.blkAt (r:=N+2) ZQ Ze xput_same).cell 1;clear uD HU hb hex hu hn bA
   by_cases h2:u.st=2
   ·have d2:(u.st != 2)=false:=by simp [h2]
    have HF:Hid (Zi Zb 125 #[.pointer (some ⟨q.e,24,none⟩),.int .i64 cl] wc fun e w'=>e= .returned (.bool (((Hs (c 1).toNat s.F s.W cl:Nat) :Int)==0))∧ ∃m,w'=wc.drewN m):=Za (zn HE.out cl);obtain ⟨f,hf⟩ : ∃f,Hs (c 1).toNat s.F s.W cl=f:=⟨_,rfl⟩;rw [hf] at HF;rw [MB HC.out.2.2.2.2] at hf;have hll:((UW s.F s.W cl).length:Int)≤c 1:=by
     have h4:=HC.out.2.1.fl;have h5:=HC.out.2.1.wl
     rcases HC.out.2.2.2.2 with e | e <;> subst e <;> simpa [UW] using by assumption
    have HH2:=Za h2;clear h2
    by_cases h3:c 1≤((UW s.F s.W cl).length:Int)
    ·have dK:Hid (exO c s o cl=(UN s o.kd 6,s)):=Za (CI (by rw [HX.out,if_neg (by rw [HH2.out]; decide),if_pos h3]) Xh);obtain rfl:f=0:=by omega
     clear h3 hll hf HX HV HC HH2;go_wp2_with fail;refine HF.out.mono ?_;rintro e w2 ⟨rfl,m,rfl⟩;have HD:Hid (Of N w0 (wc.drewN m) c a q Z s L b o):=Za ((HE.out.drop ZQ).drewN m);clear HF HE y1;have HE:=dK;clear dK d2;generalize wc.drewN m=V at*;have Vv:=Za (Km HD.out HN.out);go_wp2_with (first | (refine Zn rfl 37 _ rfl b rfl 37 _ (0,0) _ Vv.out ZS rfl XV ?_));refine (Vf (N:=N+2) HD.out HT.out o 6).mono ?_;rintro e w9 ⟨rfl,h9⟩;have H9:Hid (Of N w0 w9 c a q Z s L b o):=Za h9;have Vs:=Za (VS h9 HN.out);clear h9 Vv HD;go_wp2_with (first | (refine Zm rfl _ _ _ rfl (b+1) (Zz (VN o.kd 6 s.bk s.ep)) rfl rfl 42 _ Vs.out YS rfl (YC _) ?_));exact ZL (v:= .agg (Zz (VN o.kd 6 s.bk s.ep))) (ZU (fn:=Tryz.f124) rfl _ _ (b+1) 42 _ (0,0) _ rfl (Yc _ _ _ _ _ _ Vs.out) Yf rfl YS) rfl (Zl JP KH)
    ·have hfp:((f:Int)==0)=false:=by simp; omega
     have uL:Hid (iV c s o.ix cl=if Ou c s cl u=none then 10 else 0):=Za (by rw [HX.out,if_neg (by rw [HH2.out]; decide),if_neg h3]);have HL3:Hid (((UW s.F s.W cl).length:Int)< c 1):=Za Ze;clear hf hll h3 HX;go_wp2_with fail;refine HF.out.mono ?_;rintro e w2 ⟨rfl,m,rfl⟩;have Hd:=Za (HE.out.drewN m);clear HF HE y1 d2;generalize wc.drewN m=W2 at*;have zf:Hid (Zy W2 zb 63 (Zd u)):=Za (Hd.out.blkAt (r:=N+2) ZQ Ze xput_same);have dG:Yq u:=HC.out.2.1.fits u (QI HV.out.2.1);have HPr:=Za (pr HC.out.1 HC.out.2.1 HC.out.2.2.1 Hd.out dG cl);rw [MI] at HPr;obtain ⟨d,hd⟩ : ∃d,Ou c s cl u=d:=⟨_,rfl⟩;rw [hd] at HPr uL;have HDd:=Za hd;clear hd dG;go_wp2_with (first | (refine Zn rfl 63 _ rfl zb rfl 63 _ (0,0) _ zf.out Zs rfl Yo ?_));refine HPr.out.mono ?_;rintro e w3 ⟨rfl,h3⟩;have LY:=Za h3;clear HPr h3 Hd zf hfp
     cases hdd:d with
     | none=>
      subst hdd;have Zee:Hid (exO c s o cl=(UN s o.kd 10,s)):=Za (CI (by rw [uL.out,if_pos rfl]) Xh);have HD:Hid (Of N w0 w3 c a q Z s L b o):=Za (LY.out.drop ZQ);clear LY uL HL3 HDd HV HC HH2;have HE:=Zee;clear Zee;have Vv:=Za (Km HD.out HN.out);go_wp2_with (first | (refine Zn rfl 37 _ rfl b rfl 37 _ (0,0) _ Vv.out ZS rfl XV ?_));refine (Vf (N:=N+2) HD.out HT.out o 10).mono ?_;rintro e w9 ⟨rfl,h9⟩;have H9:Hid (Of N w0 w9 c a q Z s L b o):=Za h9;have Vs:=Za (VS h9 HN.out);clear h9 Vv HD;go_wp2_with (first | (refine Zm rfl _ _ _ rfl (b+1) (Zz (VN o.kd 10 s.bk s.ep)) rfl rfl 42 _ Vs.out YS rfl (YC _) ?_));exact ZL (v:= .agg (Zz (VN o.kd 10 s.bk s.ep))) (ZU (fn:=Tryz.f124) rfl _ _ (b+1) 42 _ (0,0) _ rfl (Yc _ _ _ _ _ _ Vs.out) Yf rfl YS) rfl (Zl JP KH)
     | some t=>
      subst hdd;have nF:Hid (exO c s o cl=(Fj s o.kd o.ix t,P9 c s o.ix cl)):=Za (by
       rw [vH (by rw [uL.out,if_neg ZO])];unfold tI;rw [HV.out.2.2,HDd.out]; rfl)
      have hS:P9 c s o.ix cl= { s with V:=s.V.set n { u with rq:=s.ep,st:=3,dl:=t},F:=pushF (c 1).toNat s.F cl o.ix,W:=pushV (c 1).toNat s.W cl o.ix}:=by
       unfold P9 tI Wn;have je:=RJ (v:=u) (e:=s.ep) jV;rw [HV.out.2.2,HDd.out,je.2,HV.out.1];rfl
      have HS:=Za hS;clear hS uL;have tF:=HT.out;have HAc:Hid (∀wx,Zi Zb 186 #[.agg (Zd u),.int .i64 s.ep] wx fun e w'=>e= .returned (.tuple #[.agg (Zd { u with rq:=s.ep,st:=3}),.int .i64 0])∧Below wx.heap.size wx w'):=Za (fun wx=>by
       have h0:=dS u s.ep wx (HC.out.2.1.fits u (QI HV.out.2.1)).2;have je:=RJ (v:=u) (e:=s.ep) jV;have hac1:(Qn [Xs s.ep,Qm 2] u).1=0:=by rw [RI (HC.out.2.1.ep_in HC.out.2.2.1),if_pos HH2.out]
       unfold ans at h0;rw [je.2,hac1] at h0;exact h0)
      go_wp2_with fail;go_cut [7] from 55 to 63 (fun s7 wx=>s7= .pointer (some ⟨zb,0,none⟩)∧Hid (Eg (N+2+1) w0 wx c a q (ZI (ZI (ZI Z N (YR b 37 (ZJ o))) (N+1) (YR (b+1) 42 (Zz Gb))) (N+2) (YR zb 63 (Zd { u with rq:=s.ep,st:=3}))) s L))
      case first=>
       have eU:Of N w0 w3.drew c a q Z s L b o:=LY.out.drew.drop ZQ;refine PG (fun w'=>Of N w0 w' c a q Z s L b o) 7 [1,2,3] (?_) ?_
       ·exact eU
       simp only [qF,qH];show ZB _ _ _ _ [_,_,_] _;iterate 3 (go_big_quiet_step ((intros; rfl)))
       refine Zj ?_;have PJ:=Za LY.out.drew;clear LY;generalize w3.drew=V3 at*;refine UI (i:=0) (k:=4) Yi ZO ZO ?_ ?_
       ·refine YE rfl rfl (wp_load_row 63 _ rfl zb rfl 63 (Zd u) (0,0) _ (PJ.out.blkAt (r:=N+2) ZQ Ze xput_same) Zs rfl Yo ?_);refine ⟨eU,?_⟩;refine Qt (i:=4) ?_;try simp only [qA]
        refine JM #[.pointer (some ⟨q.e,20,none⟩)] J5 ((Bc PJ.out tF.b0 tF.b1 tF.l tF.q).mono ?_);rintro e w4 ⟨rfl,m4,rfl⟩;have Wk:=Za (PJ.out.drewN m4);refine ⟨_,rfl,Wk.out.drop ZQ,?_⟩;clear PJ tF eU;generalize V3.drewN m4=V4 at*;try simp only [qA]
        refine Qt (i:=5) ?_;try simp only [qA]
        refine JM #[.agg (Zd u),.int .i64 s.ep] Tryz.call186 ((HAc.out _).mono ?_);rintro e w5 ⟨rfl,hb5⟩;have dK:=Za (Wk.out.below hb5);have h6:Of N w0 w5 c a q Z s L b o:=dK.out.drop ZQ;refine ⟨_,rfl,h6,?_⟩;clear Wk hb5 HAc;try simp only [qA]
        refine FR (fun w'=>Of N w0 w' c a q Z s L b o) (m:=4) (f:=1) [6,7,8] (?_) ?_
        ·exact h6
        simp only [qF,qH];show ZB _ _ _ _ [_,_,_] _;iterate 3 (go_big_quiet_step ((intros; rfl)))
        refine Zj ?_;refine Qt (i:=9) ?_;have hB:=dK.out.blkAt (r:=N+2) ZQ Ze xput_same;refine YE rfl rfl (wp_store_row _ _ _ rfl zb (Zd { u with rq:=s.ep,st:=3}) rfl rfl 63 _ hB Yo rfl (Yy _) ?_);have h7:=dK.out.setr (r:=N+2) ZQ Ze xput_same (cs':=Zd { u with rq:=s.ep,st:=3}) (Zy.setRow hB _) (Kept.setRow (S:=fun i=>i=zb) (ZM _ _) (.inl rfl) _);rw [Xg] at h7;have dL:=Za h7;refine ⟨h7.drop ZQ,?_⟩;clear dK h6 hB h7;generalize w5.setRow zb (Zd { u with rq:=s.ep,st:=3})=w7 at*;refine ⟨by kernel_rfl,ZH ?_⟩;try simp only [qA]
        go_wp2_with fail;go_meet;exact ⟨rfl,dL⟩
       ·refine JM #[.pointer (some ⟨q.e,20,none⟩)] J5 ((Bc PJ.out tF.b0 tF.b1 tF.l tF.q).mono ?_);rintro e w4 ⟨rfl,m4,rfl⟩;have Wk:=Za (PJ.out.drewN m4);have hD1:Of N w0 (V3.drewN m4) c a q Z s L b o:=Wk.out.drop ZQ;refine ⟨_,rfl,hD1,?_⟩;clear PJ tF eU;generalize V3.drewN m4=V4 at*;refine Qt (i:=0) ?_;try simp only [qA]
        refine YE rfl rfl (wp_load_row 63 _ rfl zb rfl 63 (Zd u) (0,0) _ (Wk.out.blkAt (r:=N+2) ZQ Ze xput_same) Zs rfl Yo ?_);refine ⟨hD1,?_⟩;try simp only [qA]
        refine Qt (i:=5) ?_;try simp only [qA]
        refine JM #[.agg (Zd u),.int .i64 s.ep] Tryz.call186 ((HAc.out _).mono ?_);rintro e w5 ⟨rfl,hb5⟩;have dK:=Za (Wk.out.below hb5);have h6:Of N w0 w5 c a q Z s L b o:=dK.out.drop ZQ;refine ⟨_,rfl,h6,?_⟩;clear Wk hb5 HAc;try simp only [qA]
        refine FR (fun w'=>Of N w0 w' c a q Z s L b o) (m:=4) (f:=1) [6,7,8] (?_) ?_
        ·exact h6
        simp only [qF,qH];show ZB _ _ _ _ [_,_,_] _;iterate 3 (go_big_quiet_step ((intros; rfl)))
        refine Zj ?_;refine Qt (i:=9) ?_;have hB:=dK.out.blkAt (r:=N+2) ZQ Ze xput_same;refine YE rfl rfl (wp_store_row _ _ _ rfl zb (Zd { u with rq:=s.ep,st:=3}) rfl rfl 63 _ hB Yo rfl (Yy _) ?_);have h7:=dK.out.setr (r:=N+2) ZQ Ze xput_same (cs':=Zd { u with rq:=s.ep,st:=3}) (Zy.setRow hB _) (Kept.setRow (S:=fun i=>i=zb) (ZM _ _) (.inl rfl) _);rw [Xg] at h7;have dL:=Za h7;refine ⟨h7.drop ZQ,?_⟩;clear dK h6 hB h7;generalize w5.setRow zb (Zd { u with rq:=s.ep,st:=3})=w7 at*;refine ⟨by kernel_rfl,ZH ?_⟩;try simp only [qA]
        go_wp2_with fail;go_meet;exact ⟨rfl,dL⟩
      case rest=>
       obtain ⟨rfl,HE8⟩:=hcut;have hB:=HE8.out.blkAt (r:=N+2) ZQ Ze xput_same;have hfz:wc.frozen? ⟨zb,6,none⟩=false:=hB.frozen 6;have hc6:wc.cell? ⟨zb,6,none⟩=some (.int .i64 u.dl):=hB.cell 6;have h9:=HE8.out.setc (r:=N+2) ZQ Ze xput_same 6 (.int .i64 t);rw [Xg] at h9;have Wl:Hid (Eg (N+2+1) w0 (wc.setCell ⟨zb,6,none⟩ (.int .i64 t)) c a q (ZI (ZI (ZI Z N (YR b 37 (ZJ o))) (N+1) (YR (b+1) 42 (Zz Gb))) (N+2) (YR zb 63 (Zd { u with rq:=s.ep,st:=3,dl:=t}))) s L):=Za h9;clear h9 hB HE8;go_wp2_with fail;clear hfz hc6;generalize wc.setCell ⟨zb,6,none⟩ (.int .i64 t)=W9 at*;have HO9:Hid (Of N w0 W9 c a q Z s L b o):=Za (Wl.out.drop ZQ);have x21:=Eg.x21 Wl.out;have k1:=Of.k1 HO9.out HN.out;have HB9:=Za (Wl.out.blkAt (r:=N+2) ZQ Ze xput_same);clear Wl;refine Bj 8 ?_;simp only [qT,qD];iterate 7 (go_big_quiet_step ((intros; rfl)))
       refine Qg 63 _ zb 63 (Zd { u with rq:=s.ep,st:=3,dl:=t}) _ rfl rfl rfl (fun w' h=>by obtain ⟨m,rfl⟩:=h; exact HB9.out) Zs rfl Yo ?_;simp only [qB];refine Zj ?_;intro _ Jw;obtain ⟨nr,Xl⟩:=Jw;subst Xl;clear HB9 x21 k1;have iG:Hid (Zi Zb 187 #[.pointer (some ⟨a.r,0,none⟩),.int .i64 o.ix,.agg (Zd { u with rq:=s.ep,st:=3,dl:=t})] (W9.drewN nr) fun e w'=>e= .returned (.int .i64 0)∧Of N w0 w' c a q Z { s with V:=s.V.set n { u with rq:=s.ep,st:=3,dl:=t}} L b o):=Za (by
        have hx:=Kc HO9.out nr;obtain ⟨X,hX,VP,hh,hK,_⟩:=Eg.open hx;have dG:=HC.out.2.1.fits u (QI HV.out.2.1);have bB:=HC.out.2.1.total HC.out.1;have hs:=hh.set hX VP (v':= { u with rq:=s.ep,st:=3,dl:=t}) HV.out.2.1 ⟨dG.1,rfl⟩ (by show ZA s.V - u.bal+u.bal≤_; omega);rw [←HV.out.1] at hs;exact hs.mono fun e w' ⟨he,h1⟩=>⟨he,hK _ _ _ h1 rfl rfl⟩)
       clear HO9;generalize W9.drewN nr=W10 at*;go_wp2_with fail;refine iG.out.mono ?_;rintro e w11 ⟨rfl,Gj⟩;have uJ:=Za Gj;clear Gj iG;go_wp2_with fail;have x24:=Eg.x24 uJ.out;have k1:=Of.k1 uJ.out HN.out;refine Bj 8 ?_;simp only [qT,qD];iterate 8 (go_big_quiet_step ((intros; rfl)))
       refine Zj ?_;intro _ Jw;obtain ⟨nr,Xl⟩:=Jw;subst Xl;clear x24 k1;have WN:Hid (Zi Zb 128 #[.pointer (some ⟨a.n,0,none⟩),.int .i64 cl,.int .i64 o.ix] (w11.drewN nr) fun e w'=>(∃r,e= .returned (.int .i64 r))∧Of N w0 w' c a q Z (P9 c s o.ix cl) L b o):=Za (by
        have hx:=Kc uJ.out nr;obtain ⟨X,hX,VP,hh,hK,_⟩:=Eg.open hx;refine (hh.lpush hX VP cl o.ix).mono fun e w' ⟨he,h1⟩=>⟨⟨_,he⟩,?_⟩
        rw [HS.out];exact hK _ _ _ h1 rfl rfl)
       clear uJ;generalize w11.drewN nr=W12 at*;go_wp2_with fail;refine WN.out.mono ?_;rintro e w13 ⟨⟨r13,rfl⟩,lL⟩;have HD:=Za lL;have kA:Hid (Tm c (P9 c s o.ix cl)):=Za ⟨HT.out.b0,HT.out.b1,HT.out.l,HT.out.q⟩;have HE:=nF;clear lL WN nF HS HV HC HH2 HL3 HDd;have Vv:=Za (Km HD.out HN.out);have lZ:=Of.k1 HD.out HN.out;go_wp2_with (first | (refine Zn rfl 37 _ rfl b rfl 37 _ (0,0) _ Vv.out ZS rfl XV ?_));refine (DW (N:=N+2) HD.out kA.out o o.ix t).mono ?_;rintro e w9 ⟨rfl,h9⟩;have H9:Hid (Of N w0 w9 c a q Z (P9 c s o.ix cl) L b o):=Za h9;have Vs:=Za (VS h9 HN.out);clear h9 Vv HD lZ;go_wp2_with (first | (refine Zm rfl _ _ _ rfl (b+1) (Zz (Bn o.kd o.ix t s.bk s.ep)) rfl rfl 42 _ Vs.out YS rfl (YC _) ?_));exact ZL (v:= .agg (Zz (Bn o.kd o.ix t s.bk s.ep))) (ZU (fn:=Tryz.f124) rfl _ _ (b+1) 42 _ (0,0) _ rfl (Yc _ _ _ _ _ _ Vs.out) Yf rfl YS) rfl (Zl JP KH)
   ·have HE8:Hid (exO c s o cl=(UN s o.kd 8,s)):=Za (CI (by rw [HX.out,if_pos h2]) Xh);have d2:(u.st != 2)=true:=by simp [h2]
    have HD:Hid (Of N w0 wc c a q Z s L b o):=Za (HE.out.drop ZQ);have HE:=HE8;clear HE8 HX HV HC h2;have Vv:=Za (Km HD.out HN.out);go_wp2_with (first | (refine Zn rfl 37 _ rfl b rfl 37 _ (0,0) _ Vv.out ZS rfl XV ?_));refine (Vf (N:=N+2) HD.out HT.out o 8).mono ?_;rintro e w9 ⟨rfl,h9⟩;have H9:Hid (Of N w0 w9 c a q Z s L b o):=Za h9;have Vs:=Za (VS h9 HN.out);clear h9 Vv HD;go_wp2_with (first | (refine Zm rfl _ _ _ rfl (b+1) (Zz (VN o.kd 8 s.bk s.ep)) rfl rfl 42 _ Vs.out YS rfl (YC _) ?_));exact ZL (v:= .agg (Zz (VN o.kd 8 s.bk s.ep))) (ZU (fn:=Tryz.f124) rfl _ _ (b+1) 42 _ (0,0) _ rfl (Yc _ _ _ _ _ _ Vs.out) Yf rfl YS) rfl (Zl JP KH)
theorem ZeP (hc:GE c)(hi:Inv c k s)(hk:k≤1000000)(h:Eg N w0 w c a q Z s L)(o:Oq)(ho:Kg o) :Zi Zb 84 #[.pointer (some ⟨q.e,0,none⟩),.agg (ZJ o)] w (uQ N w0 c a q Z (exO c s o 1) L):=by
 have hN:=h.low;have hO:=Dz h o;have HN:=Za hN;have H:=Za (fun W (hO:Of N w0 W c a q Z s L w.heap.size o)=>pg (N:=N+2) hc hi hk hO o ho (cl:=1) ZO);obtain ⟨r,hr⟩ : ∃r,exO c s o 1=r:=⟨_,rfl⟩;rw [hr] at H ⊢;clear hc hi hk h ho hN hr;go_enter Tryz.func84,Tryz.ntmps84;go_upto_region 1 with (fail);generalize hW:(w.alloc (.cells (ZJ o) 37)).alloc (.cells _ 42)=W;have eW:(w.alloc (.cells (ZJ o) 37)).alloc (.cells (Zz Gb) 42)=W:=hW;rw [eW] at hO;generalize w.heap.size=b at*;have Vv:=Za (hO.op HN.out);have HL:=Za (H.out W hO);clear hW eW hO H;go_wp2_with (first | (refine Zn rfl 37 _ rfl b rfl 37 _ (0,0) _ Vv.out ZS rfl XV ?_));refine HL.out.mono ?_;rintro e w9 ⟨rfl,h9⟩;have H9:Hid (Of N w0 w9 c a q Z r.2 L b o):=Za h9;have Vs:=Za (VS h9 HN.out);clear h9 HL Vv;go_wp2_with (first | (refine Zm rfl _ _ _ rfl (b+1) (Zz (rcP r.1)) rfl rfl 42 _ Vs.out YS rfl (YC _) ?_));exact ZL (v:= .agg (Zz (rcP r.1))) (ZU (fn:=Tryz.f84) rfl _ _ (b+1) 42 _ (0,0) _ rfl (Yc _ _ _ _ _ _ Vs.out) Yf rfl YS) rfl (Zl rfl (H9.out.done HN.out _))
theorem Zbp (hc:GE c)(hi:Inv c k s)(hk:k≤1000000)(h:Eg N w0 w c a q Z s L)(o:Oq)(ho:Kg o) :Zi Zb 85 #[.pointer (some ⟨q.e,0,none⟩),.agg (ZJ o)] w (uQ N w0 c a q Z (exO c s o 0) L):=by
 have hN:=h.low;have hO:=Dz h o;have HN:=Za hN;have H:=Za (fun W (hO:Of N w0 W c a q Z s L w.heap.size o)=>pg (N:=N+2) hc hi hk hO o ho (cl:=0) ZO);obtain ⟨r,hr⟩ : ∃r,exO c s o 0=r:=⟨_,rfl⟩;rw [hr] at H ⊢;clear hc hi hk h ho hN hr;go_enter Tryz.func85,Tryz.ntmps85;go_upto_region 1 with (fail);generalize hW:(w.alloc (.cells (ZJ o) 37)).alloc (.cells _ 42)=W;have eW:(w.alloc (.cells (ZJ o) 37)).alloc (.cells (Zz Gb) 42)=W:=hW;rw [eW] at hO;generalize w.heap.size=b at*;have Vv:=Za (hO.op HN.out);have HL:=Za (H.out W hO);clear hW eW hO H;go_wp2_with (first | (refine Zn rfl 37 _ rfl b rfl 37 _ (0,0) _ Vv.out ZS rfl XV ?_));refine HL.out.mono ?_;rintro e w9 ⟨rfl,h9⟩;have H9:Hid (Of N w0 w9 c a q Z r.2 L b o):=Za h9;have Vs:=Za (VS h9 HN.out);clear h9 HL Vv;go_wp2_with (first | (refine Zm rfl _ _ _ rfl (b+1) (Zz (rcP r.1)) rfl rfl 42 _ Vs.out YS rfl (YC _) ?_));exact ZL (v:= .agg (Zz (rcP r.1))) (ZU (fn:=Tryz.f85) rfl _ _ (b+1) 42 _ (0,0) _ rfl (Yc _ _ _ _ _ _ Vs.out) Yf rfl YS) rfl (Zl rfl (H9.out.done HN.out _))
end
end
end Go.Proofs.YtianiiijaopdpaaGreat
