/- Part 19 of 34: Rho Ral. -/
import Derived.Test.YtobgbcdgffgdhaaGreatZx00
import Derived.Test.YtobgbcdgffgdhaaGreatZx18
namespace Go.Proofs.YtobgbcdgffgdhaaGreat
set_option linter.unusedVariables false
set_option linter.unusedSimpArgs false
set_option maxRecDepth 100000
set_option maxHeartbeats 8000000
open _root_.And renaming intro -> Zm
open _root_.Go.RowKit renaming Below -> Zp
open _root_.Go.RowKit.Below renaming refl -> Zn
open _root_.Bool renaming and_eq_true -> YL, eq_iff_iff -> YD
open _root_.Go renaming Calls -> Zv, Value -> Zl, World -> Zc
open _root_.List renaming getD_eq_getElem?_getD -> Zo, mem_map -> Yc
open _root_.Nat renaming le_refl -> Zh, one_pos -> Qx
open _root_.Go.Proofs.YtobgbcdgffgdhaaGreat.OX renaming new -> VF
open _root_.Go.Proofs.Tryz renaming prog -> Zb
open _root_.Go.Value renaming int -> ZG
open Go.Proofs.Tryz
theorem dH {G:Prop}(h:G:=by rw [List.length_map]; exact h.vl) :G:=h
theorem Du {G:Prop}(h:G:=by have:=T0.o.2.1.lt; omega) :G:=h
theorem It {G H:Prop} (k:H) (h:Dq H->G:=by
  intro zk;refine (Rd.o Wd T0.o.2.2).mono ?_;exact zk.o) :G:=h ⟨k⟩
theorem ZiT {G H:Prop} (k:H) (h:Dq H->G:=by
  intro zk;refine Jb 32 _ w.heap.size 32 (Yu x) _ rfl rfl rfl (fun w' h=>h) underlying32 rfl Hz ?_;exact zk.o) :G:=h ⟨k⟩
theorem ZiW {G:Prop} (h:G:=by
  clear h hf hr;go_enter func31,ntmps31;go_upto_region 1 with (fail);generalize (w.alloc (.cells (Yu x) 32)).alloc (.cells (Zi c) 30)=Wd at*;have zv:=Xx T0.o.1 2;go_wp2_with fail;refine It ?_;rintro e w1 ⟨bv,rfl,ho,hb⟩;have T1:=Za (T0.o.next hb);have O1:Zj (w1.ownsRow (w.heap.size+2) 23 1 bv x.vn (Qw V)):=Za (QD ho Du);clear ho hb zv T0 Rd;go_wp2_with (first | (refine Kl 32 w.heap.size T1.o.1 underlying32 Hz ?_) | (refine Kl 30 (w.heap.size+1) T1.o.2.1 underlying30 kX ?_));refine (HEV.o w1 T1.o.2.2).mono ?_;rintro e w2 ⟨rfl,hb⟩;have B2:Zj (Below w.heap.size w w2):=Za (T1.o.2.2.trans (hb.mono T1.o.2.2.size));clear hb;exact pB) :G:=h
theorem Zmd {G:Prop} (h:G:=by
  clear h hf hr h1 d1;go_enter func31,ntmps31;go_upto_region 1 with (fail);generalize (w.alloc (.cells (Yu x) 32)).alloc (.cells (Zi c) 30)=Wd at*;have zv:=Xx T0.o.1 2;go_wp2_with fail;refine It ?_;rintro e w1 ⟨bv,rfl,ho,hb⟩;have T1:=Za (T0.o.next hb);have O1:Zj (w1.ownsRow (w.heap.size+2) 23 1 bv x.vn (Qw V)):=Za (QD ho Du);clear ho hb zv T0 Rd;have y4:=Xx T1.o.2.1 4;go_wp2_with fail;refine (HRS.o bv w1 O1.o).mono ?_;rintro e _ ⟨rfl,m,rfl⟩;have B2:=Za (below_drewN T1.o.2.2 m);exact pB) :G:=h
theorem Zmf {G:Prop} (h:G:=by
  go_enter func31,ntmps31;go_upto_region 1 with (fail);generalize (w.alloc (.cells (Yu x) 32)).alloc (.cells (Zi c) 30)=Wd at*;have zv:=Xx T0.o.1 2;go_wp2_with fail;refine It ?_;rintro e w1 ⟨bv,rfl,ho,hb⟩;have T1:=Za (T0.o.next hb);have O1:Zj (w1.ownsRow (w.heap.size+2) 23 1 bv x.vn (Qw V)):=Za (QD ho Du);clear ho hb zv T0 Rd;have zbk:=Xx T1.o.1 0;have zep:=Xx T1.o.1 1;have y13:=Xx T1.o.2.1 13;go_wp2_with fail;go_quiet (fail);go_wp2_with fail;go_ret;exact ⟨rfl,below_drewN T1.o.2.2 _⟩) :G:=h
theorem Zmu {G:Prop} (h:G:=by
  refine GD ?_;refine ⟨by kernel_rfl,?_⟩;refine LA ?_;go_wp2;refine U1 ?_;go_wp2_with fail;go_ret;exact ⟨rfl,T3.o.2.2⟩) :G:=h
section
open Go Go.RowKit Go.Deep
theorem Tg (z:List Int) : ∀n,n<=z.length->XR z n=(z.take n).sum
 | 0,_=>by simp [XR]
 | n+1,h=>by
  have e0:z[n]?=some z[n]:=List.getElem?_eq_getElem Zf;have e:z.take (n+1)=z.take n++[z[n]]:=by rw [List.take_add_one,e0]; rfl
  rw [XR,Tg z n Zf,e,List.sum_append,Zo,e0];simp
theorem sL (z:List Int) :XR z z.length=z.sum:=by rw [Tg z _ (Zh _),List.take_length]
theorem oK (V:List ZN) :Zw V=(Qj V).sum:=by
 induction V with
 | nil=>rfl
 | cons v V ih=>simp only [Zw,ih,Qj,List.map_cons,List.sum_cons]
theorem wE (z:List Int)(want:Int)(h1:want<=18446744073709551615) :isB z want=decide (z.sum=want):=by
 unfold isB KS BB;rw [sL,YD]
 by_cases h:z.sum<=18446744073709551615
 ·simp [h]
 ·simp [h];omega
theorem rI (V:List ZN)(p q:Int) :(Qj V++[p,q]).map (ZG .u64)=Qw V++[.int .u64 p,.int .u64 q]:=by simp [Qw]
theorem qV {V:List ZN}{p q:Int}(h: ∀v ∈ V,Yp v)(hp:pI p)(hq:pI q)(i:Nat) :0<=(Qj V++[p,q]).getD i 0/\(Qj V++[p,q]).getD i 0<=18446744073709551615:=by
 rw [Zo]
 cases hi:(Qj V++[p,q])[i]? with
 | none=>simp
 | some y=>
  have hm:=List.mem_of_getElem? hi;simp only [Option.getD_some]
  rcases List.mem_append.1 hm with hm | hm
  ·obtain ⟨v,hv,rfl⟩:=Yc.1 hm;exact (h v hv).bal
  ·rcases List.mem_cons.1 hm with rfl | hm
   ·exact hp
   ·obtain rfl:=List.mem_singleton.1 hm;exact hq
theorem qm (p:ZN->Bool)(V:List ZN) :(V.map p).count true=V.countP p:=by
 rw [List.count,List.countP_map]
 congr 1
 funext v
 simp
section
variable {x:Sx} {c:Nat->Int} {V:List ZN} {pd F W:List Int} {w:Zc}
theorem GV (h:Uf w x c V pd F W) : ∀W1,Zp w.heap.size w W1->Zv Zb 65 #[.slice x.va x.vn x.vc] W1 fun e w'=> ∃v,e= .returned v/\w'.ownsRow W1.heap.size 23 1 v x.vn (Qw V)/\Zp W1.heap.size W1 w':=fun W1 hb=>by
 have:=bj (fun _=>False) x.va x.vc V W1 (h.sx.vl.below hb) h.vl;rwa [h.sx.vn] at this
theorem nG {V:List ZN}(h:Eu x V=true) :V.all NK=true:=by
 unfold Eu at h;rw [YL] at h;exact h.1
theorem TP {V:List ZN}(h:Eu x V=true) :x.vn<=60/\x.pn<=60/\x.fn<=60/\x.wn<=60/\x.mn<=60/\x.tn<=60:=by
 unfold Eu at h;rw [YL] at h;exact of_decide_eq_true h.2
theorem vJ (h:Uf w x c V pd F W)(hf:Eu x V=true) :Z3 31 #[.agg (Yu x),.agg (Zi c),.int .i64 1] w (.bool (XQ c (QB x V pd F W) 0)):=by
 have T0:=Za (VF w x c);have HH:=Za (Zm h hf);have Rd:=Za (GV h);obtain ⟨r,hr⟩:=ZR (XQ c (QB x V pd F W) 0);rw [hr];have d:decide ((x.vn:Int)<=c 0)=r:=by rw [<-hr,<-h.sx.vn]; rfl
 clear h hf hr;go_enter func31,ntmps31;go_upto_region 1 with (fail);generalize (w.alloc (.cells (Yu x) 32)).alloc (.cells (Zi c) 30)=Wd at*;have zv:=Xx T0.o.1 2;go_wp2_with fail;refine It ?_;rintro e w1 ⟨bv,rfl,ho,hb⟩;have T1:=Za (T0.o.next hb);have O1:Zj (w1.ownsRow (w.heap.size+2) 23 1 bv x.vn (Qw V)):=Za (QD ho Du);clear ho hb zv T0 Rd;have zv:=Xx T1.o.1 2;have y0:=Xx T1.o.2.1 0;exact LU
theorem vK (h:Uf w x c V pd F W)(hf:Eu x V=true) :Z3 31 #[.agg (Yu x),.agg (Zi c),.int .i64 2] w (.bool (XQ c (QB x V pd F W) 1)):=by
 have T0:=Za (VF w x c);have HH:=Za (Zm h hf);have Rd:=Za (GV h);obtain ⟨r,hr⟩:=ZR (XQ c (QB x V pd F W) 1);rw [hr];have HZ:Zj (isB (Qj V++[x.P,x.B]) x.D=r):=Za (by
  rw [wE _ _ h.sx.nums.D.2,<-hr,List.sum_append,<-oK];show decide (Zw V+(x.P+(x.B+0))=x.D)=decide (Zw V+x.P+x.B=x.D);rw [YD,decide_eq_true_eq,decide_eq_true_eq];omega)
 obtain ⟨j0,OP,GO,GF,EO⟩:=T8;have HVN:=Za h.sx.vn;clear h hf hr;go_enter func31,ntmps31;go_upto_region 1 with (fail);generalize (w.alloc (.cells (Yu x) 32)).alloc (.cells (Zi c) 30)=Wd at*;have zv:=Xx T0.o.1 2;go_wp2_with fail;refine It ?_;rintro e w1 ⟨bv,rfl,ho,hb⟩;have T1:=Za (T0.o.next hb);have O1:Zj (w1.ownsRow (w.heap.size+2) 23 1 bv x.vn (Qw V)):=Za (QD ho Du);clear ho hb zv T0 Rd;go_wp2_with fail;refine L5 (fun w'=>Zu w' w.heap.size 32 (Yu x)) 10 3 [0,1,2,3,4,7,8] (?_) ?_
 ·exact T1.o.1.drew
 refine JH ?_;show wpQuiet _ _ _ _ [_,_,_,_,_,_,_] _;refine BZ ?_;refine KY _ ⟨w.heap.size,4,none⟩ (.int .u64 x.P) (fun w' h=>h.cell 4) ?_;refine X7 ?_;refine U4 ?_;refine KY _ ⟨w.heap.size,5,none⟩ (.int .u64 x.B) (fun w' h=>h.cell 5) ?_;refine X7 ?_;refine U4 ?_;refine KY _ ⟨w.heap.size,3,none⟩ (.int .u64 x.D) (fun w' h=>h.cell 3) ?_;refine X7 ?_;refine Yo ?_;have hvn:x.vn<=60:=(TP HH.o.2).1;have O2:=Za (Vk O1.o (Zn _ w1).drew);have T2:=Za (T1.o.next (Zn _ w1).drew);clear O1 T1;generalize w1.drew=w1 at*;have T3:=Za (T2.o.next ((Zn _ w1).alloc (Zh _) (.cells #[.int .u64 x.P,.int .u64 x.B] 23)));refine Ed ?_;refine Yv rfl rfl (Qu 121 23 (.tmp 26) (.tmp 28) _ _ (.int .u64 x.P) (.int .u64 x.B) rfl rfl rfl underlying121 EI rfl rfl rfl ⟨T3.o.1,?_⟩);refine Lz ?_;refine P7 ?_;refine Yv rfl rfl (GP _ (.tmp 24) (.tmp 29) 121 rfl (w.heap.size+2) 23 j0 _ 1 8 underlying121 OP GO GF EO rfl Qx bv x.vn (Qw V) rfl (O2.o.alloc _) (some ⟨w1.heap.size,0,none⟩) 2 2 [.int .u64 x.P,.int .u64 x.B] rfl rfl (fun _=>⟨_,rfl,Ax w1 _ _⟩) BW Vx Zf (by have:=T2.o.2.1.lt; simp; omega) ?_);intro v1 w2 ho hg Al;have TT: ∀q,bv.ownBlock=some q->w.heap.size+2<=q:=fun q hq=>by
  rcases O2.o.2 with ⟨h1,_⟩ | ⟨g,Bg,cur,h1,h2,_⟩
  ·exact CF
  ·exact po
 have T4:Zj (OX w w2 x c):=Za ⟨T3.o.1.grown hg (fun e=>by have:=TT _ e.symm; omega),T3.o.2.1.grown hg (fun e=>by have:=TT _ e.symm; omega),T3.o.2.2.grown hg T3.o.2.2.size (fun q hq=>by have:=TT q hq; omega)⟩;have hlz:(Qj V++[x.P,x.B]).length=x.vn+2:=by rw [List.length_append,Qj,List.length_map,HVN.o]; rfl
 have HIS:=Za (wF v1 (w.heap.size+2) (Qj V++[x.P,x.B]) x.D w2 (by rw [hlz,rI]; exact ho) Zf (qV HH.o.1.sx.vf HH.o.1.sx.nums.P HH.o.1.sx.nums.B));rw [HZ.o] at HIS;clear ho hg Al TT hlz O2 T2 T3;refine ⟨T4.o.1,?_⟩;refine JC (i:=9) ?_;refine P7 ?_;refine JA #[v1,.int .u64 x.D] call66 ((HIS.o).mono ?_);rintro e _ ⟨rfl,m,rfl⟩;refine ⟨_,rfl,T4.o.1,?_⟩;refine GD ?_;refine ⟨by kernel_rfl,?_⟩;refine LA ?_;go_wp2;refine U1 ?_;go_wp2_with fail;go_ret;exact ⟨rfl,below_drewN T4.o.2.2 _⟩
theorem vL (h:Uf w x c V pd F W)(hf:Eu x V=true) :Z3 31 #[.agg (Yu x),.agg (Zi c),.int .i64 3] w (.bool (XQ c (QB x V pd F W) 2)):=by
 have T0:=Za (VF w x c);have HH:=Za (Zm h hf);have Rd:=Za (GV h);obtain ⟨r,hr⟩:=ZR (XQ c (QB x V pd F W) 2);rw [hr];have HRS:Zj (∀(v:Zl) (w':Zc),w'.ownsRow (w.heap.size+2) 23 1 v x.vn (Qw V)->Xc 67 #[v] w' (.tuple #[.int .u64 (if Zw V<=18446744073709551615 then Zw V else 0),.bool (decide (Zw V<=18446744073709551615))])):=Za fun v w' ho=>lY v _ V w' (by rw [h.sx.vn]; exact ho) h.vl h.sx.vf
 by_cases h1:Zw V<=18446744073709551615
 ·have d1:decide (Zw V<=18446744073709551615)=true:=decide_eq_true h1;rw [d1,if_pos h1] at HRS;have d:decide (Zw V<=c 4)=r:=hr;generalize Zw V=b at*;exact Zmd
 ·have d1:decide (Zw V<=18446744073709551615)=false:=decide_eq_false h1;rw [d1,if_neg h1] at HRS;have Fe:r=false:=by rw [<-hr]; exact decide_eq_false (show ¬Zw V<=c 4 by have:=h.c4; omega)
  subst Fe;exact Zmd
theorem vM (h:Uf w x c V pd F W)(hf:Eu x V=true) :Z3 31 #[.agg (Yu x),.agg (Zi c),.int .i64 4] w (.bool (XQ c (QB x V pd F W) 3)):=by
 have T0:=Za (VF w x c);have HH:=Za (Zm h hf);have Rd:=Za (GV h);obtain ⟨r,hr⟩:=ZR (XQ c (QB x V pd F W) 3);rw [hr];have HZ:Zj (isB (Qj (V.filter fun v=>QG v.st)) x.ac=r):=Za (by rw [wE _ _ h.sx.nums.ac.2,<-hr,<-oK,Lm]; rfl);have HLV:Zj (∀W1,Zp w.heap.size w W1->Zv Zb 68 #[.slice x.va x.vn x.vc] W1 fun e w'=> ∃v,e= .returned v/\w'.ownsRow W1.heap.size 23 1 v (V.filter fun v=>QG v.st).length (Qw (V.filter fun v=>QG v.st))/\Zp W1.heap.size W1 w'):=Za fun W1 hb=>wP _ _ _ _ V W1 (h.sx.vl.below hb) h.sx.vn GC
 have HIS:Zj (∀(v:Zl) (b:Nat) (W1:Zc),W1.ownsRow b 23 1 v (V.filter fun v=>QG v.st).length (Qw (V.filter fun v=>QG v.st))->Xc 66 #[v,.int .u64 x.ac] W1 (.bool r)):=Za fun v b W1 ho=>by
  have hb:(Qj (V.filter fun v=>QG v.st)).length=(V.filter fun v=>QG v.st).length:=by simp [Qj]
  rw [<-HZ.o];exact wF v b _ x.ac W1 (by rw [hb]; exact ho) (by rw [hb]; have:=List.length_filter_le (fun v:ZN=>QG v.st) V; have:=h.vl; omega) (Hq fun v hv=>h.sx.vf v (List.mem_filter.1 hv).1)
 clear h hf hr;go_enter func31,ntmps31;go_upto_region 1 with (fail);generalize (w.alloc (.cells (Yu x) 32)).alloc (.cells (Zi c) 30)=Wd at*;have zv:=Xx T0.o.1 2;go_wp2_with fail;refine It ?_;rintro e w1 ⟨bv,rfl,ho,hb⟩;have T1:=Za (T0.o.next hb);have O1:Zj (w1.ownsRow (w.heap.size+2) 23 1 bv x.vn (Qw V)):=Za (QD ho Du);clear ho hb zv T0 Rd;go_wp2_with fail;refine L5 (fun w'=>Zu w' w.heap.size 32 (Yu x)) 6 2 [0,1,3,4] (?_) ?_
 ·exact T1.o.1.drew
 refine JH ?_;refine Hg ?_;refine U4 ?_;refine KY _ ⟨w.heap.size,2,none⟩ (.slice x.va x.vn x.vc) (fun w' h=>h.cell 2) ?_;refine X7 ?_;refine U4 ?_;refine KY _ ⟨w.heap.size,6,none⟩ (.int .u64 x.ac) (fun w' h=>h.cell 6) ?_;refine X7 ?_;refine Yo ?_;have T2:=Za (T1.o.next (Zn _ w1).drew);clear O1 T1;generalize w1.drew=w1 at*;refine JC (i:=2) ?_;refine JA #[.slice x.va x.vn x.vc] call68 ((HLV.o w1 T2.o.2.2).mono ?_);rintro e w2 ⟨v,rfl,ho,hb⟩;have O2:=Za ho;have T3:=Za (T2.o.next hb);clear ho hb T2;refine ⟨_,rfl,T3.o.1,?_⟩;refine Ed ?_;refine P7 ?_;refine JA #[v,.int .u64 x.ac] call66 ((HIS.o v _ w2 O2.o).mono ?_);rintro e _ ⟨rfl,m,rfl⟩;refine ⟨_,rfl,T3.o.1,?_⟩;refine GD ?_;refine ⟨by kernel_rfl,?_⟩;refine LA ?_;go_wp2;refine U1 ?_;go_wp2_with fail;go_ret;exact ⟨rfl,below_drewN T3.o.2.2 _⟩
theorem vN (h:Uf w x c V pd F W)(hf:Eu x V=true) :Z3 31 #[.agg (Yu x),.agg (Zi c),.int .i64 5] w (.bool (XQ c (QB x V pd F W) 4)):=by
 have T0:=Za (VF w x c);have HH:=Za (Zm h hf);have Rd:=Za (GV h);obtain ⟨r,hr⟩:=ZR (XQ c (QB x V pd F W) 4);rw [hr];have HCH:Zj (∀W1,Zp w.heap.size w W1->Zv Zb 70 #[.agg (Yu x),.int .i64 5] W1 fun e w'=> ∃v,e= .returned v/\VL w' W1.heap.size v (V.map dX)/\Zp W1.heap.size W1 w'):=Za fun W1 hb=>eQ _ x V W1 (h.sx.vl.below hb) h.sx.vn GC
 have HON:Zj (∀(v:Zl) (b:Nat) (W1:Zc),Zp w.heap.size w W1->VL W1 b v (V.map dX)->Zv Zb 69 #[.slice x.pa x.pn x.pc,v] W1 fun e w'=>e= .returned (.bool r)/\w'=W1):=Za fun v b W1 hb ho=>by
  have:=gY _ b x.pa x.pn x.pc pd v (V.map dX) W1 (h.sx.pl.below hb) h.sx.pn (by have:=h.pl; have:=h.sx.pn; omega) ho dH;rw [AA] at this;rw [<-hr];exact this
 clear h hf hr;go_enter func31,ntmps31;go_upto_region 1 with (fail);generalize (w.alloc (.cells (Yu x) 32)).alloc (.cells (Zi c) 30)=Wd at*;have zv:=Xx T0.o.1 2;go_wp2_with fail;refine It ?_;rintro e w1 ⟨bv,rfl,ho,hb⟩;have T1:=Za (T0.o.next hb);have O1:Zj (w1.ownsRow (w.heap.size+2) 23 1 bv x.vn (Qw V)):=Za (QD ho Du);clear ho hb zv T0 Rd;go_wp2_with fail;refine L5 (fun w'=>Zu w' w.heap.size 32 (Yu x)) 5 2 [0,1,2] (?_) ?_
 ·exact T1.o.1.drew
 refine JH ?_;refine Nh ?_;refine U4 ?_;refine KY _ ⟨w.heap.size,7,none⟩ (.slice x.pa x.pn x.pc) (fun w' h=>h.cell 7) ?_;refine X7 ?_;refine ZiT ?_;refine X7 ?_;refine Yo ?_;have T2:=Za (T1.o.next (Zn _ w1).drew);clear O1 T1;generalize w1.drew=w1 at*;refine JC (i:=3) ?_;refine JA #[.agg (Yu x),.int .i64 5] call70 ((HCH.o w1 T2.o.2.2).mono ?_);rintro e w2 ⟨v,rfl,ho,hb⟩;have O2:=Za ho;have T3:=Za (T2.o.next hb);clear ho hb T2;refine ⟨_,rfl,T3.o.1,?_⟩;refine JC (i:=4) ?_;refine P7 ?_;refine JA #[.slice x.pa x.pn x.pc,v] call69 ((HON.o v _ w2 T3.o.2.2 O2.o).mono ?_);rintro e _ ⟨rfl,rfl⟩;refine ⟨_,rfl,T3.o.1,?_⟩;exact Zmu
theorem vO (h:Uf w x c V pd F W)(hf:Eu x V=true) :Z3 31 #[.agg (Yu x),.agg (Zi c),.int .i64 6] w (.bool (XQ c (QB x V pd F W) 5)):=by
 have T0:=Za (VF w x c);have HH:=Za (Zm h hf);have Rd:=Za (GV h);obtain ⟨r,hr⟩:=ZR (XQ c (QB x V pd F W) 5);rw [hr];have HCH:Zj (∀W1,Zp w.heap.size w W1->Zv Zb 70 #[.agg (Yu x),.int .i64 6] W1 fun e w'=> ∃v,e= .returned v/\VL w' W1.heap.size v (V.map bX)/\Zp W1.heap.size W1 w'):=Za fun W1 hb=>eR _ x V W1 (h.sx.vl.below hb) h.sx.vn GC
 have HON:Zj (∀(u v:Zl) (b:Nat) (W1:Zc),Us W1 0 u (F++W)->VL W1 b v (V.map bX)->Zv Zb 69 #[u,v] W1 fun e w'=>e= .returned (.bool r)/\w'=W1):=Za fun u v b W1 hu ho=>by
  obtain ⟨qa,qc,rfl,q1,q2,q3,q4⟩:=QC (S:=fun _=>False) hu fun _ _ h=>h
  have:=gY _ b qa (F++W).length qc (F++W) v (V.map bX) W1 q4 rfl oX ho dH;rw [AA] at this;rw [<-hr];exact this
 have HI:Zj ((∀W1,Zp w.heap.size w W1->XS W1 (fun _=>False) x.fa F)/\(∀W1,Zp w.heap.size w W1->XS W1 (fun _=>False) x.wa W)):=Za ⟨fun W1 hb=>h.sx.fl.below hb,fun W1 hb=>h.sx.wl.below hb⟩;have HFN:=Za (Zm h.sx.fn h.sx.wn);have Ab:x.fn<=60:=(TP hf).2.2.1;have hwn:x.wn<=60:=(TP hf).2.2.2.1;obtain ⟨i8,tr,wk,wi,hb8⟩:=Gj;clear h hf hr;go_enter func31,ntmps31;go_upto_region 1 with (fail);generalize (w.alloc (.cells (Yu x) 32)).alloc (.cells (Zi c) 30)=Wd at*;have zv:=Xx T0.o.1 2;go_wp2_with fail;refine It ?_;rintro e w1 ⟨bv,rfl,ho,hb⟩;have T1:=Za (T0.o.next hb);have O1:Zj (w1.ownsRow (w.heap.size+2) 23 1 bv x.vn (Qw V)):=Za (QD ho Du);clear ho hb zv T0 Rd;go_wp2_with fail;refine L5 (fun w'=>Zu w' w.heap.size 32 (Yu x)) 10 5 [1,2,4,5,7] (?_) ?_
 ·exact T1.o.1.drew
 refine JH ?_;refine OJ ?_;refine U4 ?_;refine KY _ ⟨w.heap.size,8,none⟩ (.slice x.fa x.fn x.fc) (fun w' h=>h.cell 8) ?_;refine X7 ?_;refine U4 ?_;refine KY _ ⟨w.heap.size,9,none⟩ (.slice x.wa x.wn x.wc) (fun w' h=>h.cell 9) ?_;refine X7 ?_;refine ZiT ?_;refine X7 ?_;refine Yo ?_;have T2:=Za (T1.o.next (Zn _ w1).drew);clear O1 T1;generalize w1.drew=w1 at*;have T3:=Za (T2.o.next ((Zn _ w1).alloc (Zh _) (.cells #[] 3)));have E0:Zj (Zu (w1.alloc (.cells #[] 3)) w1.heap.size 3 #[]):=Za (Zu.new w1 _ _);refine JC (i:=0) ?_;refine Yv rfl rfl (OH 24 3 i8 rfl underlying24 tr ⟨T3.o.1,?_⟩);have BK:w.heap.size+2<=w1.heap.size:=by have:=T2.o.2.1.lt; omega
 have O0:Zj (Us (w1.alloc (.cells #[] 3)) (w.heap.size+2) (.slice (some ⟨w1.heap.size,0,none⟩) 0 0) []):=Za (Oo E0.o BK);clear T2 E0;generalize w1.alloc (.cells #[] 3)=w2 at*;generalize w1.heap.size=g at*;refine JC (i:=3) ?_;refine P7 ?_;have grow:Zj (∀(v:Zl) (l:List Int) (u1 u2:Zc),Us u1 (w.heap.size+2) v l->OX w u1 x c->u1.grownBy u2 v.ownBlock->OX w u2 x c):=Za fun v l u1 u2 ho hT hg=>by
  have TT: ∀q,v.ownBlock=some q->w.heap.size+2<=q:=fun q hq=>by
   rcases ho.2 with ⟨h1,_⟩ | ⟨g,Bg,cur,h1,h2,_⟩
   ·exact CF
   ·exact po
  exact ⟨hT.1.grown hg (fun e=>by have:=TT _ e.symm; omega),hT.2.1.grown hg (fun e=>by have:=TT _ e.symm; omega),hT.2.2.grown hg hT.2.2.size (fun q hq=>by have:=TT q hq; omega)⟩
 have app:Zj (∀(v:Zl) (l M:List Int) (p:Option Addr) (m cp:Nat) (o:Oper) (a:Act) (u1:Zc) (K:Act->Zc->Prop) (Q:Exit->Act->Zc->Prop) (s y:Operand),Us u1 (w.heap.size+2) v l->w.heap.size+2<=u1.heap.size->XS u1 (fun _=>False) p M->M.length=m->l.length+m<=1000->o.op= .call { callee:= .builtin .append,args:= #[s,y],argTypes:= #[24,24]}->a.eval s=v->a.eval y= .slice p m cp->(∀v' w',Us w' (w.heap.size+2) v' (l++M)->u1.grownBy w' v.ownBlock->K (a.put o.dst v') w')->o.wp Zb a u1 K Q):=Za fun v l M p m cp o a u1 K Q s y H RF hM hm nN ho hs hy hK=>by
  subst hm;refine GP u1 s y 24 ho (w.heap.size+2) 3 i8 _ 1 8 underlying24 tr wk wi hb8 rfl Qx v l.length _ hs H p M.length cp (M.map (ZG .i64)) hy ZE (fun h0=>?_) (fun u hu=>?_) Vx Zf RF fun v' w' h1 h2 h3=>hK v' w' ?_ h2
  ·exact Zmr
  ·obtain ⟨i,_,rfl⟩:=Yc.1 hu;rfl
  ·unfold Us;exact zC
 refine Yv rfl rfl (app.o _ _ F x.fa x.fn x.fc _ _ w2 _ _ _ _ O0.o (by have:=T3.o.2.1.lt; omega) (HI.o.1 w2 T3.o.2.2) HFN.o.1 Xo rfl rfl rfl ?_);intro v1 w3 ho hg;have T4:=Za (grow.o _ _ _ _ O0.o T3.o hg);have O4:Zj (Us w3 (w.heap.size+2) v1 F):=Za ho;clear ho hg T3 O0;refine ⟨T4.o.1,?_⟩;refine Lz ?_;refine P7 ?_;refine Yv rfl rfl (app.o _ _ W x.wa x.wn x.wc _ _ w3 _ _ _ _ O4.o (by have:=T4.o.2.1.lt; omega) (HI.o.2 w3 T4.o.2.2) HFN.o.2 (by rw [HFN.o.1]; omega) rfl rfl rfl ?_);intro v2 w4 ho hg;have T5:=Za (grow.o _ _ _ _ O4.o T4.o hg);have O5:Zj (Us w4 (w.heap.size+2) v2 (F++W)):=Za ho;clear ho hg T4 O4;refine ⟨T5.o.1,?_⟩;refine JC (i:=8) ?_;refine P7 ?_;refine JA #[.agg (Yu x),.int .i64 6] call70 ((HCH.o w4 T5.o.2.2).mono ?_);rintro e w5 ⟨v,rfl,ho,hb⟩;have O6:=Za ho;have O7:Zj (Us w5 0 v2 (F++W)):=Za (QD (Vk O5.o hb) (Nat.zero_le _));have T6:=Za (T5.o.next hb);clear ho hb T5 O5;refine ⟨_,rfl,T6.o.1,?_⟩;refine JC (i:=9) ?_;refine P7 ?_;refine JA #[v2,v] call69 ((HON.o v2 v _ w5 O7.o O6.o).mono ?_);rintro e _ ⟨rfl,rfl⟩;refine ⟨_,rfl,T6.o.1,?_⟩;refine GD ?_;refine ⟨by kernel_rfl,?_⟩;refine LA ?_;go_wp2;refine U1 ?_;go_wp2_with fail;go_ret;exact ⟨rfl,T6.o.2.2⟩
theorem vQ (h:Uf w x c V pd F W)(hf:Eu x V=true) :Z3 31 #[.agg (Yu x),.agg (Zi c),.int .i64 7] w (.bool (XQ c (QB x V pd F W) 6)):=by
 have T0:=Za (VF w x c);have HH:=Za (Zm h hf);have Rd:=Za (GV h);obtain ⟨r,hr⟩:=ZR (XQ c (QB x V pd F W) 6);rw [hr];have HEV:Zj (∀W1,Zp w.heap.size w W1->Z3 71 #[.agg (Yu x),.agg (Zi c),.int .i64 7] W1 (.bool r)):=Za fun W1 hb=>by
  rw [<-hr];exact j9 _ x c V W1 (h.sx.vl.below hb) h.sx.vn GC (nG hf) h.c10.1 h.c10.2
 exact ZiW
theorem vR (h:Uf w x c V pd F W)(hf:Eu x V=true) :Z3 31 #[.agg (Yu x),.agg (Zi c),.int .i64 8] w (.bool (XQ c (QB x V pd F W) 7)):=by
 have T0:=Za (VF w x c);have HH:=Za (Zm h hf);have Rd:=Za (GV h);obtain ⟨r,hr⟩:=ZR (XQ c (QB x V pd F W) 7);rw [hr];have HEV:Zj (∀W1,Zp w.heap.size w W1->Z3 71 #[.agg (Yu x),.agg (Zi c),.int .i64 8] W1 (.bool r)):=Za fun W1 hb=>by
  rw [<-hr];exact ka _ x c V W1 (h.sx.vl.below hb) h.sx.vn GC
 exact ZiW
theorem re (h:Uf w x c V pd F W)(hf:Eu x V=true) :Z3 31 #[.agg (Yu x),.agg (Zi c),.int .i64 12] w (.bool (XQ c (QB x V pd F W) 11)):=by
 have T0:=Za (VF w x c);have HH:=Za (Zm h hf);have Rd:=Za (GV h);obtain ⟨r,hr⟩:=ZR (XQ c (QB x V pd F W) 11);rw [hr];have HEV:Zj (∀W1,Zp w.heap.size w W1->Z3 71 #[.agg (Yu x),.agg (Zi c),.int .i64 12] W1 (.bool r)):=Za fun W1 hb=>by
  rw [<-hr];exact fD _ x c V W1 (h.sx.vl.below hb) h.sx.vn GC
 exact ZiW
theorem vS (h:Uf w x c V pd F W)(hf:Eu x V=true) :Z3 31 #[.agg (Yu x),.agg (Zi c),.int .i64 9] w (.bool (XQ c (QB x V pd F W) 8)):=by
 have T0:=Za (VF w x c);have HH:=Za (Zm h hf);have Rd:=Za (GV h);obtain ⟨r,hr⟩:=ZR (XQ c (QB x V pd F W) 8);rw [hr];have HCH:Zj (∀W1,Zp w.heap.size w W1->Zv Zb 70 #[.agg (Yu x),.int .i64 9] W1 fun e w'=> ∃v,e= .returned v/\VL w' W1.heap.size v (V.map Tz)/\Zp W1.heap.size W1 w'):=Za fun W1 hb=>eS _ x V W1 (h.sx.vl.below hb) h.sx.vn GC
 obtain ⟨t,ht⟩:=ZR (V.countP Tz);have HCN:Zj (∀(v:Zl) (b:Nat) (W1:Zc),VL W1 b v (V.map Tz)->Zv Zb 72 #[v] W1 fun e w'=>e= .returned (.int .i64 (t:Int))/\w'=W1):=Za fun v b W1 ho=>by
  have:=lS b v (V.map Tz) W1 ho dH;rwa [qm,ht] at this
 have d:(x.un==(t:Int))=r:=ZeU
 clear h hf hr ht;go_enter func31,ntmps31;go_upto_region 1 with (fail);generalize (w.alloc (.cells (Yu x) 32)).alloc (.cells (Zi c) 30)=Wd at*;have zv:=Xx T0.o.1 2;go_wp2_with fail;refine It ?_;rintro e w1 ⟨bv,rfl,ho,hb⟩;have T1:=Za (T0.o.next hb);have O1:Zj (w1.ownsRow (w.heap.size+2) 23 1 bv x.vn (Qw V)):=Za (QD ho Du);clear ho hb zv T0 Rd;go_wp2_with fail;refine L5 (fun w'=>Zu w' w.heap.size 32 (Yu x)) 6 3 [0,1,2] (?_) ?_
 ·exact T1.o.1.drew
 refine JH ?_;refine Nh ?_;refine U4 ?_;refine KY _ ⟨w.heap.size,12,none⟩ (.int .i64 x.un) (fun w' h=>h.cell 12) ?_;refine X7 ?_;refine ZiT ?_;refine X7 ?_;refine Yo ?_;have T2:=Za (T1.o.next (Zn _ w1).drew);clear O1 T1;generalize w1.drew=w1 at*;refine JC (i:=3) ?_;refine JA #[.agg (Yu x),.int .i64 9] call70 ((HCH.o w1 T2.o.2.2).mono ?_);rintro e w2 ⟨v,rfl,ho,hb⟩;have O2:=Za ho;have T3:=Za (T2.o.next hb);clear ho hb T2;refine ⟨_,rfl,T3.o.1,?_⟩;refine JC (i:=4) ?_;refine P7 ?_;refine JA #[v] call72 ((HCN.o v _ w2 O2.o).mono ?_);rintro e _ ⟨rfl,rfl⟩;refine ⟨_,rfl,T3.o.1,?_⟩;refine P7 ?_;refine TS (fun w'=>Zu w' w.heap.size 32 (Yu x)) (m:=1) (f:=0) [5] (?_) ?_
 ·exact T3.o.1
 refine JH ?_;refine Hh ?_;refine U4 ?_;refine Yo ?_;exact Zmu
theorem vT (h:Uf w x c V pd F W)(hf:Eu x V=true) :Z3 31 #[.agg (Yu x),.agg (Zi c),.int .i64 10] w (.bool (XQ c (QB x V pd F W) 9)):=by
 have T0:=Za (VF w x c);have HH:=Za (Zm h hf);have Rd:=Za (GV h);obtain ⟨r,hr⟩:=ZR (XQ c (QB x V pd F W) 9);rw [hr];have hp:=h.sx.pn;have hfl:=h.sx.fn;have hwl:=h.sx.wn;obtain ⟨q,hq⟩ : ∃q:Int,max (max (max (max (x.pn:Int) x.fn) x.wn) x.mn) x.tn=q:=⟨_,rfl⟩;have hmx: ∀(ts:Array TypeId) (t:TypeId) (w:Zc),(Builtin.max_ ts t #[.int .i64 (x.pn:Int),.int .i64 (x.fn:Int),.int .i64 (x.wn:Int),.int .i64 (x.mn:Int),.int .i64 (x.tn:Int)]).run Zb w= .ok (.int .i64 q) w:=fun ts t w=>by rw [iI,hq]
 have d:decide (q<=c 1)=r:=by
  refine Zl0 ?_;rw [decide_eq_true_eq,hp,hfl,hwl];omega
 have HQ:=Za hq;clear h hf hr hp hfl hwl hq;go_enter func31,ntmps31;go_upto_region 1 with (fail);generalize (w.alloc (.cells (Yu x) 32)).alloc (.cells (Zi c) 30)=Wd at*;have zv:=Xx T0.o.1 2;go_wp2_with fail;refine It ?_;rintro e w1 ⟨bv,rfl,ho,hb⟩;have T1:=Za (T0.o.next hb);have O1:Zj (w1.ownsRow (w.heap.size+2) 23 1 bv x.vn (Qw V)):=Za (QD ho Du);clear ho hb zv T0 Rd;have zp:=Xx T1.o.1 7;have zf:=Xx T1.o.1 8;have zw:=Xx T1.o.1 9;have zm:w1.cell? ⟨w.heap.size,10,none⟩=some (.int .i64 (x.mn:Int)):=T1.o.1.cell 10;have zt:w1.cell? ⟨w.heap.size,11,none⟩=some (.int .i64 (x.tn:Int)):=T1.o.1.cell 11;have y1:=Xx T1.o.2.1 1;exact LU
theorem ra (h:Uf w x c V pd F W)(hf:Eu x V=true) :Z3 31 #[.agg (Yu x),.agg (Zi c),.int .i64 11] w (.bool (XQ c (QB x V pd F W) 10)):=by
 have T0:=Za (VF w x c);have HH:=Za (Zm h hf);have Rd:=Za (GV h);obtain ⟨r,hr⟩:=ZR (XQ c (QB x V pd F W) 10);rw [hr];have c13:=h.c13;have HB:=Za h.sx.nums.bk;have HRB:Zj (r=decide (0<=x.bk/\x.ep=x.bk/c 13)):=Za hr.symm;clear h hf hr
 by_cases h0:0<=x.bk
 ·have d0:decide (0<=x.bk)=true:=decide_eq_true h0;have d:(x.ep==x.bk/c 13)=r:=ZfU
  have hz: ¬c 13=0:=Zf;have hq:wrap64 (x.bk.tdiv (c 13))=x.bk/c 13:=ZmG
  exact Zmf
 ·have d0:decide (0<=x.bk)=false:=decide_eq_false h0;have Fe:r=false:=zF
  subst Fe;clear h0;exact Zmf
end
end
section
open Go Go.RowKit Go.Deep
theorem Zb8 {x:Sx}{c:Nat->Int}{V:List ZN}{pd F W:List Int}(k:Nat)(hk:k < 12)(w:Zc)(h:Uf w x c V pd F W)(hf:Eu x V=true) :Z3 31 #[.agg (Yu x),.agg (Zi c),.int .i64 ((k:Int)+1)] w (.bool (XQ c (QB x V pd F W) k)):=by
 have:k=0\/k=1\/k=2\/k=3\/k=4\/k=5\/k=6\/k=7\/k=8\/k=9\/k=10\/k=11:=Zf
 rcases this with rfl | rfl | rfl | rfl | rfl | rfl | rfl | rfl | rfl | rfl | rfl | rfl
 ·exact vJ h hf
 ·exact vK h hf
 ·exact vL h hf
 ·exact vM h hf
 ·exact vN h hf
 ·exact vO h hf
 ·exact vQ h hf
 ·exact vR h hf
 ·exact vS h hf
 ·exact vT h hf
 ·exact ra h hf
 ·exact re h hf
theorem xy {x:Sx}{c:Nat->Int}{V:List ZN}{pd F W:List Int}(w:Zc)(h:Uf w x c V pd F W)(hf:Eu x V=true) :Zv Zb 15 #[.agg (Yu x),.agg (Zi c)] w fun e w'=> ∃v,e= .returned v/\Us w' w.heap.size v (QN c (QB x V pd F W) 12)/\Zp w.heap.size w w':=by
 have T0:=Za (VF w x c);have HH:=Za (Zm h hf);generalize hs:QB x V pd F W=s at*;have HS:=Za hs;obtain ⟨i8,tr,wk,wi,hb8⟩:=Gj;clear h hf hs;go_enter func15,ntmps15;go_upto_region 1 with (fail);generalize (w.alloc (.cells (Yu x) 32)).alloc (.cells (Zi c) 30)=Wd at*;go_wp2_with fail;go_loopw [5,6] (fun s5 s6 wr=> ∃k:Nat,k<=12/\s6= .int .i64 ((k:Int)+1)/\Zj (Us wr (w.heap.size+2) s5 (QN c s k))/\Zj (OX w wr x c)) (fun _ s6 _=>13 -(intOf s6).toNat)
 case atStart=>exact pj
 case round=>
  obtain ⟨k,hk,rfl,HV,T⟩:=hrel
  by_cases L9:k < 12
  ·have d12:decide ((k:Int)+1<=12)=true:=decide_eq_true Zf;have d11:decide ((k:Int)<=11)=true:=decide_eq_true Zf;have HR:Zj (∀W',Zp w.heap.size w W'->Z3 31 #[.agg (Yu x),.agg (Zi c),.int .i64 ((k:Int)+1)] W' (.bool (XQ c s k))):=Za fun W' hb=>by
    rw [<-HS.o];exact Zb8 k L9 W' (HH.o.1.below hb) HH.o.2
   go_wp2_with (first | (refine Kl 32 w.heap.size T.o.1 underlying32 Hz ?_) | (refine Kl 30 (w.heap.size+1) T.o.2.1 underlying30 kX ?_));refine (HR.o wr T.o.2.2).mono ?_;rintro e w3 ⟨rfl,hb⟩;have T3:=Za (T.o.next hb);have V3:=Za (Vk HV.o hb);clear hb HR T HV
   cases hr:XQ c s k with
   | true=>
    exact ZmE
   | false=>
    have HV2:Zj (QN c s (k+1)=QN c s k++[(k:Int)+1]):=Za (T9 hr);have tk:Zj ((QN c s k).length<=12):=Za (Nat.le_trans (PV c s k) Zf);clear hr;generalize QN c s k=L at*;obtain ⟨m,LF⟩:=ZR (L.length);have V4:Zj (w3.ownsRow (w.heap.size+2) 3 1 u5 m (L.map (ZG .i64))):=Za (by rw [<-LF]; exact V3.o);rw [LF] at tk;have HMM:=Za LF;clear LF V3;go_wp2_with (at_builtin; refine YR _ rfl _ _ 24 rfl (w.heap.size+2) 3 i8 _ 1 8 underlying24 tr wk wi hb8 rfl Qx u5 m (L.map (ZG .i64)) rfl (V4.o.alloc _) (some ⟨w3.heap.size,0,none⟩) 1 1 [.int .i64 ((k:Int)+1)] rfl rfl (fun _=>⟨_,rfl,cell_one_new w3 _ _⟩) BW (by have:=tk.o; unfold maxLen; omega) (by have:=tk.o; omega) (by have:=T3.o.2.1.lt; simp; omega) ?_; intro v1 w4 ho hg Al);have HZ:Zj (Us w4 (w.heap.size+2) v1 (QN c s (k+1))/\OX w w4 x c):=Za (by
     have XJ:=T3.o.2.1.lt;have BK:=T3.o.2.2.size;have TT: ∀q,u5.ownBlock=some q->w.heap.size+2<=q:=fun q hq=>by
      exact ZeM
     have hT4:=T3.o.next ((Zn _ w3).alloc (Zh _) (.cells #[.int .i64 ((k:Int)+1)] 3));refine ⟨?_,hT4.1.grown hg (fun e=>?_),hT4.2.1.grown hg (fun e=>?_),hT4.2.2.grown hg hT4.2.2.size (fun q hq=>by have:=TT q hq; omega)⟩
     ·exact Zfx
     ·have:=TT _ e.symm; omega
     ·have:=TT _ e.symm; omega)
    exact ZmU
  ·obtain rfl:k=12:=Zf;exact Zfy
end
end Go.Proofs.YtobgbcdgffgdhaaGreat
