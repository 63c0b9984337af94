/- The Go function egress/egresslaw24.AuditDetects returns true for every input, and leaves its arguments as they were. Conditions: none but the statement's own. -/
import Derived.Test.YtobgbcdgffgdhaaGreatZx00
import Derived.Test.YtobgbcdgffgdhaaGreatZx03
import Derived.Test.YtobgbcdgffgdhaaGreatZx33
import Derived.ShutString
namespace Go.Proofs.YtobgbcdgffgdhaaGreat
set_option linter.unusedVariables false
set_option linter.unusedSimpArgs false
set_option maxRecDepth 100000
set_option maxHeartbeats 8000000
open _root_.Go.RowKit renaming Below -> Zp
open _root_.Go.RowKit.Below renaming refl -> Zn
open _root_.Nat renaming le_refl -> Zh
open _root_.Go.Region renaming seqB -> JT
open _root_.Go.Proofs.Tryz renaming prog -> Zb
open _root_.Go.World renaming setRow_alloc_new -> Zq
open Go.Proofs.Tryz
section
open Go Go.ChangeShapes Go.WideShapes Go.RowKit Go.Deep
variable {H : Type} {enc : TypeId × Value → H} {w : World} {base : Nat} {spare : Nat → Bool} {held : Bool}
theorem trod_two {P : Program} {t e : TypeId} {fuel : Nat} {u v : Value} {x : DataW H × List MemPlace} (ht : P.underlying t = some (.array 2 e)) (hce : P.cellsOf e = 1)
    (h : DataW.trod enc P w base spare held fuel t [u, v] = some x) :
    ∃ n y z, DataW.trod enc P w base spare held n e [u] = some y ∧ DataW.trod enc P w base spare held n e [v] = some z := by
  rcases fuel with _ | n
  · simp [DataW.trod] at h
  · unfold DataW.trod at h
    rw [ht] at h
    have hr : List.range 2 = [0, 1] := rfl
    simp [hr, hce] at h
    obtain ⟨_, h⟩ := h
    cases h0 : DataW.trod enc P w base spare held n e [u] with
    | none => simp [h0] at h
    | some y =>
      cases h1 : DataW.trod enc P w base spare held n e [v] with
      | none => simp [h0, h1] at h
      | some z => exact ⟨n, y, z, h0, h1⟩
theorem open_T57 {r : Reach} {b0 : Nat} {v : Value} {d : DataW H} {p : List MemPlace} (hv : Value.okWide Tryz.prog w r b0 57 v) (h : DataW.Trod enc Tryz.prog w base (fun _ => true) held 57 v d p) : ∃ c : Int × Int, v = .agg (BH c) ∧ jy c := by
  have hu := Tryz.underlying57
  simp only [Value.okWide, hu] at hv
  obtain ⟨cs, rfl, hsz, _⟩ := hv
  have h4 : Tryz.prog.cellsOf 57 = 2 := by kernel_rfl
  rw [h4] at hsz
  obtain ⟨l⟩ := cs
  obtain ⟨fuel, hf⟩ := h
  match l, (show l.length = 2 by simpa using hsz) with
  | [v0, v1], _ =>
    obtain ⟨m, y0, y1, t0, t1⟩ := trod_two Tryz.underlying57 (by kernel_rfl) (show DataW.trod enc Tryz.prog w base (fun _ => true) held fuel 57 [v0, v1] = _ from hf)
    obtain ⟨k0, e0, _, q0⟩ := DataW.trod_int Tryz.underlying5 t0
    obtain ⟨k1, e1, _, q1⟩ := DataW.trod_int Tryz.underlying5 t1
    injection e0 with e0
    injection e1 with e1
    subst e0 e1
    exact ⟨(k0, k1), rfl, q0, q1⟩
end
theorem Zf4 {G:Prop} (h:G:=by
  go_wp2_with (first | (refine Up gb ((ZH y)) 28 BS0.o BM (EZ y) ?_));refine NoPanic.normal ?_;have BS:Zj (Zu (w7.setRow gb (ZH y)) gb 28 (ZH y)):=Za (BS0.o.setRow _);clear BS0;generalize w7.setRow gb (ZH y)=V at*;go_wp2_with (first | (refine Kl 28 gb BS.o underlying28 BM ?_));refine (sF y V).mono ?_;rintro e z1 ⟨rfl,hb⟩;have N1:Zj (Zu (z1.alloc (.cells (Yu y) 32)) z1.heap.size 32 (Yu y)):=Za (Zu.new z1 _ _);have BV2:Zj (Below V.heap.size V (z1.alloc (.cells (Yu y) 32))):=Za (hb.alloc hb.size _);clear hb;go_upto_region 10 with (first | (refine Up z1.heap.size (Yu y) 32 (heap_alloc_new z1 _) Hz (Sw y) ?_; rw [World.setRow_alloc_new]));try simp only [Act.put]
  generalize z1.alloc (.cells (Yu y) 32)=z2 at*;generalize z1.heap.size=sb at*;have HFW:=Za (uY SXY.o z2 BV2.o)
  cases hq:Eu y V' with
  | false=>
   rw [hq] at HFW;clear hq;go_wp2_with (first | (refine Kl 32 sb N1.o underlying32 Hz ?_));refine HFW.o.mono ?_;rintro e z3 ⟨rfl,hb⟩;have BV3:=Za (BV2.o.trans (hb.mono BV2.o.size));clear hb;go_wp2_with fail;refine (HA.o z3).mono ?_;rintro e z4 ⟨rfl,hb⟩;have BV4:=Za (BV3.o.trans (hb.mono BV3.o.size));clear hb;go_wp2_with fail;go_ret;exact ⟨rfl,BWV.o.trans (BV4.o.mono BWV.o.size)⟩
  | true=>
   have HAU:=Za (ZkA SXY.o HCF.o.1 HCF.o.2 hq);have HQ:=Za hq;rw [hq] at HFW;clear hq;go_wp2_with (first | (refine Kl 32 sb N1.o underlying32 Hz ?_));refine HFW.o.mono ?_;rintro e z3 ⟨rfl,hb⟩;have BV3:=Za (BV2.o.trans (hb.mono BV2.o.size));have N3:=Za (N1.o.below hb N1.o.lt);have S3:=Za (BS.o.below BV3.o BS.o.lt);have C3:=Za (BCV.o.below BV3.o BCV.o.lt);clear hb BV2 N1;go_wp2_with (first | (refine Kl 28 gb S3.o underlying28 BM ?_) | (refine Kl 30 b C3.o underlying30 Qk ?_));have HAL:=Za (na z3 (HAU.o.below BV3.o));have HRA:Zj (∀W1,Below V.heap.size V W1->Calls Tryz.prog 15 #[.agg (Yu y),.agg (Zi c)] W1 fun e w'=> ∃v,e= .returned v/\Us w' W1.heap.size v (QN c (QB y V' pd' F' s2.W) 12)/\Below W1.heap.size W1 w'):=Za fun W1 hb=>xy W1 (HAU.o.below hb) HQ.o
   have CK:Zj ((QN c (QB y V' pd' F' s2.W) 12).length<=12):=Za (PV _ _ 12);generalize QN c (QB y V' pd' F' s2.W) 12=LR at*;refine HAL.o.mono ?_;rintro e z5 ⟨v,rfl,ho,hb⟩;obtain ⟨pa,ca,rfl,_,_,_,hi⟩:=QC (S:=fun _=>False) ho fun _ _ h=>h
   have HI:=Za hi;have BV5:=Za (BV3.o.trans (hb.mono BV3.o.size));have N5:=Za (N3.o.below hb N3.o.lt);have C5:=Za (C3.o.below hb C3.o.lt);clear ho hb hi HAL S3 N3 C3 BV3 HFW;obtain ⟨n,hn⟩:=ZR (LR.length);have HNN:=Za hn;have HPN:Zj (pt<=5->0 < n):=Za fun h=>by
    have:=HVI.o h;rw [<-HNN.o];exact List.length_pos_iff.2 this
   rw [hn];clear hn HVI;go_wp2_with fail;refine (HA.o z5).mono ?_;rintro e z6 ⟨rfl,hb⟩;have BV6:=Za (BV5.o.trans (hb.mono BV5.o.size));have N6:=Za (N5.o.below hb N5.o.lt);have C6:=Za (C5.o.below hb C5.o.lt);have HI6:=Za (HI.o.below hb);clear hb BV5 N5 C5 HI;go_wp2_with (first | (refine KD rfl 32 _ rfl sb rfl 32 _ (0,0) _ N6.o underlying32 rfl Hz ?_) | (refine KD rfl 30 _ rfl b rfl 30 _ (0,0) _ C6.o underlying30 rfl Qk ?_));refine (HRA.o z6 BV6.o).mono ?_;rintro e z7 ⟨v7,rfl,ho,hb⟩;obtain ⟨pb,cb,rfl,_,_,_,hi⟩:=QC (S:=fun _=>False) ho fun _ _ h=>h
   have HJ:=Za hi;have BV7:=Za (BV6.o.trans (hb.mono BV6.o.size));have HI7:=Za (HI6.o.below hb);clear ho hb hi BV6 N6 C6 HI6;rw [HNN.o];go_wp2_with fail;refine (WQ (L:=LR) (n:=n) HI7.o HJ.o HNN.o (by have:=CK.o; have:=HNN.o; omega)).mono ?_;rintro e _ ⟨rfl,m,rfl⟩;have BV8:Zj (Below V.heap.size V (z7.drewN m)):=Za (below_drewN BV7.o m);clear BV7 HI7 HJ;generalize z7.drewN m=z8 at*;have BVE:=Za (BWV.o.trans (BV8.o.mono BWV.o.size))
   by_cases h5:5 < pt
   ·have d5:decide (5 < pt)=true:=decide_eq_true h5;clear HPN;go_wp2_with fail;go_ret;exact ⟨rfl,BVE.o⟩
   ·have d5:decide (5 < pt)=false:=decide_eq_false h5;have h0:0 < n:=HPN.o (by omega);have d0:decide ((0:Int)< (n:Int))=true:=decide_eq_true (by omega);have d00:decide (0 < n)=true:=decide_eq_true h0;have h00:(0:Int)< (n:Int):=by omega
    clear HPN;go_wp2_with fail;go_ret;exact ⟨rfl,BVE.o⟩) :G:=h
theorem zT5 {G:Prop} (h:G:=by
  generalize w6=w7 at*;exact Zf4) :G:=h
theorem Zi5 {G:Prop} (h:G:=by
  go_wp2_with fail;refine (HA.o w3).mono ?_;rintro e w4 ⟨rfl,b4⟩;have H4:Zj (Below w.heap.size w w4):=Za (H3.o.trans (b4.mono H3.o.size));clear b4;go_wp2_with fail;go_ret;exact ⟨rfl,H4.o⟩) :G:=h
section
open Go Go.RowKit Go.Deep
theorem PZ (c:Nat->Int)(a1:Option Addr)(Ie cap1:Nat)(a2:Int × Int)(w:World)(f0:Wi c)(o1:Zd2 w a1 Ie cap1)(f2:jy a2) :Z3 5 #[.agg (Zi c),.slice a1 Ie cap1,.agg (BH a2)] w (.bool true):=by
 have b0:Zp w.heap.size w ((w.alloc (.cells (Zi c) 30)).alloc (.cells (BH a2) 57)):=((Zn _ _).alloc (Zh _) _).alloc (by simp) _;have jq:Zj (Zu ((w.alloc (.cells (Zi c) 30)).alloc (.cells (BH a2) 57)) w.heap.size 30 (Zi c)):=Za ((Zu.new _ _ _).alloc _);have IA:Zj (Zu ((w.alloc (.cells (Zi c) 30)).alloc (.cells (BH a2) 57)) (w.heap.size+1) 57 (BH a2)):=Za (Ej w _ _ _);obtain ⟨Gh,hmax,l,hl,hlf,hls⟩:=o1;have HLs:=Za (hls.below b0);have HLf:=Za hlf;have Iw:=Za hl;have IB:=Za b0;have HA:=Za (fun w=>Zbb w);have HFt:=Za (fun w=>gL c a1 Ie cap1 w);have HU:=Za f2.le;obtain ⟨p0,p1⟩:=a2;clear Gh hmax hlf hls b0 hl f2
 by_cases hf:pE c Ie
 ·have Ab:kg c Ie=1:=if_pos hf;rw [Ab] at HFt
  by_cases h60:60 < c 0
  ·have d60:decide (60 < c 0)=true:=decide_eq_true h60;clear f0 hf Ab;go_enter func5,ntmps5;go_upto_region 1 with (fail);generalize (w.alloc (.cells (Zi c) 30)).alloc (.cells (BH (p0,p1)) 57)=W1 at*;generalize vw:w.heap.size=b at*;have HBB:=Za vw;clear vw;have IB:Zj (Zp w.heap.size w W1):=Za (by rw [HBB.o]; exact IB.o);go_wp2_with (first | (refine Kl 30 b jq.o underlying30 Qk ?_));refine (HFt.o W1).mono ?_;rintro e w3 ⟨rfl,b3⟩;have Mc:=Za (jq.o.below b3 jq.o.lt);have HX3:=Za (IA.o.below b3 IA.o.lt);have H3:Zj (Zp w.heap.size w w3):=Za (IB.o.trans (b3.mono IB.o.size));have HL3:=Za (HLs.o.below b3);clear b3 HFt jq IA IB HLs;have c0:=Xx Mc.o 0;exact Zi5
  ·have d60:decide (60 < c 0)=false:=decide_eq_false h60
   by_cases h61:50 < c 1
   ·have d61:decide (50 < c 1)=true:=decide_eq_true h61;clear f0 hf Ab;go_enter func5,ntmps5;go_upto_region 1 with (fail);generalize (w.alloc (.cells (Zi c) 30)).alloc (.cells (BH (p0,p1)) 57)=W1 at*;generalize vw:w.heap.size=b at*;have HBB:=Za vw;clear vw;have IB:Zj (Zp w.heap.size w W1):=Za (by rw [HBB.o]; exact IB.o);go_wp2_with (first | (refine Kl 30 b jq.o underlying30 Qk ?_));refine (HFt.o W1).mono ?_;rintro e w3 ⟨rfl,b3⟩;have Mc:=Za (jq.o.below b3 jq.o.lt);have HX3:=Za (IA.o.below b3 IA.o.lt);have H3:Zj (Zp w.heap.size w w3):=Za (IB.o.trans (b3.mono IB.o.size));have HL3:=Za (HLs.o.below b3);clear b3 HFt jq IA IB HLs;have c0:=Xx Mc.o 0;have c1:=Xx Mc.o 1;exact Zi5
   ·have d61:decide (50 < c 1)=false:=decide_eq_false h61;have hn4:Ie<=400:=by unfold pE at hf; omega
    have HN:=Za (fun w=>ZkI (c:=c) w (RE f0 hf.1) hf.1);have HS0:=Za (ZlQ f0 hf.1 hf.2.1);have HCF:=Za (And.intro f0 hf.1);have HI0:=Za (ZhU c);clear hf Ab f0;go_enter func5,ntmps5;go_upto_region 1 with (fail);generalize (w.alloc (.cells (Zi c) 30)).alloc (.cells (BH (p0,p1)) 57)=W1 at*;generalize vw:w.heap.size=b at*;have HBB:=Za vw;clear vw;have IB:Zj (Zp w.heap.size w W1):=Za (by rw [HBB.o]; exact IB.o);go_wp2_with (first | (refine Kl 30 b jq.o underlying30 Qk ?_));refine (HFt.o W1).mono ?_;rintro e w3 ⟨rfl,b3⟩;have Mc:=Za (jq.o.below b3 jq.o.lt);have HX3:=Za (IA.o.below b3 IA.o.lt);have H3:Zj (Zp w.heap.size w w3):=Za (IB.o.trans (b3.mono IB.o.size));have HL3:=Za (HLs.o.below b3);clear b3 HFt jq IA IB HLs;have c0:=Xx Mc.o 0;have c1:=Xx Mc.o 1;go_wp2_with (first | (refine Kl 30 b Mc.o underlying30 Qk ?_));clear c0 c1 d60 d61 h60 h61;refine (HN.o w3).mono ?_;rintro e w2 ⟨a,q,rfl,h2⟩;have E3:=Za (h2 noP);clear h2 HN;obtain ⟨s0,Ty⟩:=ZR (dY);obtain ⟨L0,hL0⟩:=ZR (([] :List QZ));rw [Ty] at HI0;rw [Ty,hL0] at HS0 E3;clear Ty hL0;have ZgK:=Za (by
     have h:=ZoU HS0.o (by have:=Iw.o; omega) (by have:=Iw.o; omega) HLf.o E3.o (.inl HL3.o) cap1;rwa [Iw.o] at h)
    have Hi:=Za (Re.ops l HS0.o (by have:=Iw.o; omega) HLf.o);have HI2:=Za (Re.ops2 l HS0.o HI0.o (by have:=Iw.o; omega) HLf.o);obtain ⟨s2,bV⟩:=ZR (EP c s0 l);obtain ⟨L2,hL2⟩:=ZR (BO c s0 L0 l);rw [bV,hL2] at Hi;rw [bV] at HI2;rw [bV,hL2] at ZgK;generalize NM c s0 l=R at*;clear bV hL2 E3 HS0 HI0;go_wp2_with fail;refine ZgK.o.mono ?_;rintro e V2 ⟨gr,rfl,h2⟩;have E2:=Za (Eg.drew (h:=h2));have x0:V2.cell? ⟨b+1,0,none⟩=some (.int .u8 p0):=(h2.kblk HX3.o).cell 0;clear h2 ZgK;obtain ⟨pt,Ib⟩:=ZR ((wrap64 p0).tmod 8);have HPT:Zj (0<=pt/\pt<=7):=Za (by
     have hu:=HU.o;have hw:wrap64 p0=p0:=Rb
     rw [<-Ib,hw,Int.tmod_eq_emod_of_nonneg (by omega)];omega)
    go_upto_region 8 with (fail);try simp only [Act.put]
    clear x0 Ib;obtain ⟨X,hXX⟩:=ZR (V2.drew);rw [hXX] at E2;refine L5 (fun w'=>Zu w' (b+1) 57 (BH (p0,p1))) 7 3 [0,2,3,4] (?_) ?_
    ·rw [hXX]; exact E2.o.kblk HX3.o
    rw [hXX];clear hXX;simp only [qF,qH];show wpQuiet _ _ _ _ [_,_,_,_] _;iterate 3 (go_big_quiet_step ((intros; rfl)))
    refine KY _ ⟨b+1,1,none⟩ (.int .u8 p1) (fun w' h=>h.cell 1) ?_;simp only [qB];refine wpQuiet_nil ?_;refine KC (i:=1) (k:=6) (by kernel_rfl) (by omega) (by omega) ?_ ?_
    ·refine JA #[.pointer (some ⟨q.e,0,none⟩)] call20 ((Hi.o.snap (by have:=Iw.o; omega) E2.o).mono ?_);rintro e w4 ⟨x1,x2,x3,x4,x5,x6,rfl,h4⟩;have B4:=Za (h4.kblk HX3.o);have H4:Zj (Zp w.heap.size w w4):=Za (H3.o.trans (h4.down.mono H3.o.size));have C4:=Za (h4.kblk Mc.o);obtain ⟨xs,ex,hsx,hlen,hrl⟩:=oF Hi.o HI2.o (by have:=Iw.o; omega) HCF.o.1 HCF.o.2 (by omega) h4 (fun _=>False) (fun _ h=>h.elim);have HSX:=Za hsx;have HLX:=Za hlen;have HRL:=Za hrl;rw [ex];clear ex hsx hlen hrl h4;refine ⟨_,rfl,B4.o,?_⟩;try simp only [qA]
     refine KC (i:=5) (k:=6) (by kernel_rfl) (by omega) (by omega) ?_ ?_
     ·refine JA #[.agg (ZH xs),.int .i64 pt,.int .u8 p1] call22 ((Ob pt HPT.o c xs s2.V s2.pd s2.F s2.W p1 w4 (fun _=>False) (fun _ h=>h.elim) HSX.o HLX.o HU.o.2.1 HU.o.2.2 HRL.o).mono ?_);rintro e w6 ⟨y,V',pd',F',rfl,hsy,hvi,hb⟩;have B6:=Za (B4.o.below hb B4.o.lt);have C6:=Za (C4.o.below hb C4.o.lt);have H6:Zj (Zp w.heap.size w w6):=Za (H4.o.trans (hb.mono H4.o.size));have HSY:=Za hsy;have HVI:=Za hvi;clear hsy hvi hb B4 C4 H4 HSX HLX HRL;refine ⟨_,rfl,B6.o,?_⟩;try simp only [qA]
      refine JC (i:=6) ?_;refine Yv rfl rfl (Nb rfl ?_);refine ⟨B6.o.alloc _,?_⟩;show JT _ _ _ _ _=true/\_;refine ⟨by kernel_rfl,?_⟩;simp only [qA];have BS0:Zj (Zu (w6.alloc (.cells Ma 28)) w6.heap.size 28 Ma):=Za (Zu.new w6 _ _);have BCV:Zj (Zu ((w6.alloc (.cells Ma 28)).setRow w6.heap.size (ZH y)) b 30 (Zi c)):=Za (by rw [Zq]; exact C6.o.alloc _);have BWV:Zj (Zp w.heap.size w ((w6.alloc (.cells Ma 28)).setRow w6.heap.size (ZH y))):=Za (by rw [Zq]; exact H6.o.alloc H6.o.size _);have SXY:Zj (Be ((w6.alloc (.cells Ma 28)).setRow w6.heap.size (ZH y)) (fun _=>False) y V' pd' F' s2.W):=Za (by rw [Zq]; exact HSY.o.below ((Zn _ _).alloc (Zh _) _));clear HSY B6 C6 H6 E2;generalize w6.alloc (.cells Ma 28)=w7 at*;generalize w6.heap.size=gb at*;exact Zf4
     ·refine Yv rfl rfl (Nb rfl ?_);have B5:=Za (B4.o.alloc (.cells Ma 28));have C5:=Za (C4.o.alloc (.cells Ma 28));have G5:Zj (Zu (w4.alloc (.cells Ma 28)) w4.heap.size 28 Ma):=Za (Zu.new w4 _ _);have H5:Zj (Zp w.heap.size w (w4.alloc (.cells Ma 28))):=Za (H4.o.alloc H4.o.size _);have HGB:Zj (b < w4.heap.size):=Za C4.o.lt;refine ⟨B5.o,?_⟩;try simp only [qA]
      have HSX:Zj (Be (w4.alloc (.cells Ma 28)) (fun i=>i=w4.heap.size) xs s2.V s2.pd s2.F s2.W):=Za (HSX.o.late.below ((Zn _ _).alloc (Zh _) _));clear B4 C4 H4;generalize w4.alloc (.cells Ma 28)=w5 at*;generalize w4.heap.size=gb at*;refine JC (i:=5) ?_;refine JA #[.agg (ZH xs),.int .i64 pt,.int .u8 p1] call22 ((Ob pt HPT.o c xs s2.V s2.pd s2.F s2.W p1 w5 (fun i=>i=gb) (fun i h=>h▸G5.o.lt) HSX.o HLX.o HU.o.2.1 HU.o.2.2 HRL.o).mono ?_);rintro e w6 ⟨y,V',pd',F',rfl,hsy,hvi,hb⟩;have B6:=Za (B5.o.below hb B5.o.lt);have C6:=Za (C5.o.below hb C5.o.lt);have BS0:=Za (G5.o.below hb G5.o.lt);have BWV:Zj (Zp w.heap.size w (w6.setRow gb (ZH y))):=Za (Vq (ZA.setRow (S:=fun _=>False) (Vu rfl (H5.o.trans (hb.mono H5.o.size))) (g:=gb) (.inr (by have:=HBB.o; have:=HGB.o; omega)) _));have HSY:=Za hsy;have HVI:=Za hvi;clear hsy hvi hb B5 C5 G5 H5 HSX HLX HRL;refine ⟨_,rfl,B6.o,?_⟩;show JT _ _ _ _ _=true/\_;refine ⟨by kernel_rfl,?_⟩;simp only [qA];have BCV:Zj (Zu (w6.setRow gb (ZH y)) b 30 (Zi c)):=Za (C6.o.setRow_far (by have:=HGB.o; omega) _);have SXY:Zj (Be (w6.setRow gb (ZH y)) (fun _=>False) y V' pd' F' s2.W):=Za (HSY.o.store _);clear HSY B6 C6 E2;exact zT5
    ·refine Yv rfl rfl (Nb rfl ?_);have E1:Zj (Eg 13 ⟨fun _=>False,w3⟩ (X.alloc (.cells Ma 28)) c a q _ s2 L2):=Za (E2.o.box Ma 28);have B1:=Za ((E2.o.kblk HX3.o).alloc (.cells Ma 28));have HGB:Zj (b < X.heap.size):=Za (E2.o.kblk Mc.o).lt;refine ⟨B1.o,?_⟩;try simp only [qA]
     clear E2 B1;generalize X.alloc (.cells Ma 28)=X2 at*;generalize X.heap.size=gb at*;refine JC (i:=1) ?_;refine JA #[.pointer (some ⟨q.e,0,none⟩)] call20 ((Hi.o.snap (by have:=Iw.o; omega) E1.o).mono ?_);rintro e w4 ⟨x1,x2,x3,x4,x5,x6,rfl,h4⟩;have B5:=Za (h4.kblk HX3.o);have H5:Zj (Zp w.heap.size w w4):=Za (H3.o.trans (h4.down.mono H3.o.size));have C5:=Za (h4.kblk Mc.o);obtain ⟨xs,ex,hsx,hlen,hrl⟩:=oF Hi.o HI2.o (by have:=Iw.o; omega) HCF.o.1 HCF.o.2 (by omega) h4 (fun i=>i=gb) (fun i hi=>⟨Ma,hi▸h4.blkAt (r:=12) (by omega) (by omega) (by unfold snX; rw [Zy (by omega),Zy (by omega),Zy (by omega),Zy (by omega),Zy (by omega),Zy (by omega),Zr])⟩);have HSX:=Za hsx;have HLX:=Za hlen;have HRL:=Za hrl;have G5:Zj (Zu w4 gb 28 Ma):=Za (h4.blkAt (r:=12) (by omega) (by omega) (by unfold snX; rw [Zy (by omega),Zy (by omega),Zy (by omega),Zy (by omega),Zy (by omega),Zy (by omega),Zr]));rw [ex];clear ex hsx hlen hrl h4;refine ⟨_,rfl,B5.o,?_⟩;try simp only [qA]
     refine JC (i:=5) ?_;refine JA #[.agg (ZH xs),.int .i64 pt,.int .u8 p1] call22 ((Ob pt HPT.o c xs s2.V s2.pd s2.F s2.W p1 w4 (fun i=>i=gb) (fun i h=>h▸G5.o.lt) HSX.o HLX.o HU.o.2.1 HU.o.2.2 HRL.o).mono ?_);rintro e w6 ⟨y,V',pd',F',rfl,hsy,hvi,hb⟩;have B6:=Za (B5.o.below hb B5.o.lt);have C6:=Za (C5.o.below hb C5.o.lt);have BS0:=Za (G5.o.below hb G5.o.lt);have BWV:Zj (Zp w.heap.size w (w6.setRow gb (ZH y))):=Za (Vq (ZA.setRow (S:=fun _=>False) (Vu rfl (H5.o.trans (hb.mono H5.o.size))) (g:=gb) (.inr (by have:=HBB.o; have:=HGB.o; omega)) _));have HSY:=Za hsy;have HVI:=Za hvi;clear hsy hvi hb B5 C5 G5 H5 HSX HLX HRL;refine ⟨_,rfl,B6.o,?_⟩;show JT _ _ _ _ _=true/\_;refine ⟨by kernel_rfl,?_⟩;simp only [qA];have BCV:Zj (Zu (w6.setRow gb (ZH y)) b 30 (Zi c)):=Za (C6.o.setRow_far (by have:=HGB.o; omega) _);have SXY:Zj (Be (w6.setRow gb (ZH y)) (fun _=>False) y V' pd' F' s2.W):=Za (HSY.o.store _);clear HSY B6 C6 E1;exact zT5
 ·have Ab:kg c Ie=0:=if_neg hf;rw [Ab] at HFt;clear Ab hf f0;go_enter func5,ntmps5;go_upto_region 1 with (fail);generalize (w.alloc (.cells (Zi c) 30)).alloc (.cells (BH (p0,p1)) 57)=W1 at*;generalize vw:w.heap.size=b at*;have HBB:=Za vw;clear vw;have IB:Zj (Zp w.heap.size w W1):=Za (by rw [HBB.o]; exact IB.o);go_wp2_with (first | (refine Kl 30 b jq.o underlying30 Qk ?_));refine (HFt.o W1).mono ?_;rintro e w3 ⟨rfl,b3⟩;have Mc:=Za (jq.o.below b3 jq.o.lt);have HX3:=Za (IA.o.below b3 IA.o.lt);have H3:Zj (Zp w.heap.size w w3):=Za (IB.o.trans (b3.mono IB.o.size));have HL3:=Za (HLs.o.below b3);clear b3 HFt jq IA IB HLs;exact Zi5
end
section
open Go Go.ChangeShapes Go.WideShapes Go.ChangeAt Go.RowKit
open Go.ChangeMaps (open_string shut_string)
theorem own:ownKnob Tryz.prog.godebug=none:=ZgR
theorem laidOut:laidOutB Zb=true:=ny
theorem ZhX (os:Os)(started:os.Started)(H:Type)(enc:TypeId × Value->H) :
  ReturnsInHanded {} Tryz.checked os 5 .any (Rows.auditDetectsSpec.pre6 enc Zb Tryz.f5 Rows.auditDetectsRow.domain false) (Rows.auditDetectsSpec.post enc Zb Tryz.f5 false true false false):=by
 refine returnsInHanded_of_change (C:=Tryz.checked) own started (by as_aux_lemma=>kernel_rfl) func5
  (ChangeSpec.witness6 (enc:=enc) (C:=Tryz.checked) false ⟨#[],#[.agg (Zi (fun _=>0)),.slice none 0 0,.agg (BH ((0,0)))],[]⟩ 8 (by as_aux_lemma=>kernel_rfl) (by as_aux_lemma=>kernel_rfl) (by as_aux_lemma=>kernel_rfl) (by as_aux_lemma=>kernel_rfl)) ?_
 intro W base args ds gs before hval0 hW hcnd BK;have Zcp: ∀(j:Nat) t v,Tryz.f5.params[j]?=some t->args[j]?=some v->Value.okWide Zb W .any base t v:=hval0;have hW':=hW;obtain ⟨p,q,Tv,hV,rfl,hfz,vX⟩:=hW;have hA:DataW.TrodAll enc Zb W 0 (fun _=>true) true Tryz.f5.params.toList args.toList ds p:=Tv;rw [Tryz.params5] at hA Zcp;obtain ⟨v0,vs0,d0,ds0,p0,q0,hargs,rfl,rfl,h0,r0⟩:=trodAll_cons hA;obtain ⟨v1,vs1,d1,ds1,p1,q1,rfl,rfl,rfl,h1,r1⟩:=trodAll_cons r0;obtain ⟨v2,vs2,d2,ds2,p2,q2,rfl,rfl,rfl,h2,r2⟩:=trodAll_cons r1;obtain ⟨rfl,rfl,rfl⟩:=trodAll_nil r2;obtain rfl:args= #[v0,v1,v2]:=by cases args; simp_all
 obtain ⟨rfl,rfl⟩:=trodVars_none hV;obtain ⟨a0,rfl,w0⟩:=open_T30 (Zcp 0 30 v0 rfl rfl) h0;have k0:=h0;have lt0: ∀x ∈ p0,x.block < W.heap.size:=by obtain ⟨m,hm⟩:=k0; exact DataW.trod_lt m _ _ _ hm
 obtain ⟨a1,Ie,cap1,rfl,w1⟩:=open_S42 (Zcp 1 42 v1 rfl rfl) h1;have k1:=h1;have lt1: ∀x ∈ p1,x.block < W.heap.size:=by obtain ⟨m,hm⟩:=k1; exact DataW.trod_lt m _ _ _ hm
 obtain ⟨a2,rfl,w2⟩:=open_T57 (Zcp 2 57 v2 rfl rfl) h2;have k2:=h2;have lt2: ∀x ∈ p2,x.block < W.heap.size:=by obtain ⟨m,hm⟩:=k2; exact DataW.trod_lt m _ _ _ hm
 clear Tv hval0;refine (PZ a0 a1 Ie cap1 a2 W w0 w1 w2).mono fun e W' ⟨he,bel⟩=>?_
 subst he;exact ⟨_,rfl,_,_,_,[],_,[],hW',trodAll_mk1 (shut_bool underlying4 _),(trodAll_cons_mk (Below.trod laidOut (by as_aux_lemma=>kernel_rfl) (of_decide_eq_true (by as_aux_lemma=>kernel_rfl)) k0 bel lt0) (trodAll_cons_mk (Below.trod laidOut (by as_aux_lemma=>kernel_rfl) (of_decide_eq_true (by as_aux_lemma=>kernel_rfl)) k1 bel lt1) (trodAll_cons_mk (Below.trod laidOut (by as_aux_lemma=>kernel_rfl) (of_decide_eq_true (by as_aux_lemma=>kernel_rfl)) k2 bel lt2) trodAll_mk0))),rfl,bel.frame _,fun h=>by cases h⟩
theorem Jy {a b:Bool}(ha:a=true)(hb:b=true) :(a&&b)=true:=by rw [ha,hb]; rfl
theorem ZgT:joinedFacts Zb 5 Tryz.f5 Rows.auditDetectsSpec Rows.auditDetectsRow=true:=by
 unfold joinedFacts;exact (Jy (Jy (Jy (Jy (Jy (Jy (Jy (Jy (Jy (Jy (Jy (Jy (Jy (Jy (Jy (Jy (Jy (Jy (Jy (Jy (Jy (Jy (Jy (Jy (Jy (Jy (Jy (Jy (Jy (Jy (Jy (by as_aux_lemma=>kernel_rfl) ny) Zbo) (by as_aux_lemma=>kernel_rfl)) (by as_aux_lemma=>kernel_rfl)) (by as_aux_lemma=>kernel_rfl)) uk) (by as_aux_lemma=>kernel_rfl)) uj) (by as_aux_lemma=>kernel_rfl)) (by as_aux_lemma=>kernel_rfl)) (by as_aux_lemma=>kernel_rfl)) (by as_aux_lemma=>kernel_rfl)) (by as_aux_lemma=>kernel_rfl)) (by as_aux_lemma=>kernel_rfl)) (by as_aux_lemma=>kernel_rfl)) (by as_aux_lemma=>kernel_rfl)) (by as_aux_lemma=>kernel_rfl)) (by as_aux_lemma=>kernel_rfl)) (by as_aux_lemma=>kernel_rfl)) (by as_aux_lemma=>kernel_rfl)) (by as_aux_lemma=>kernel_rfl)) Zbl) (by as_aux_lemma=>kernel_rfl)) ui) uh) Zbm) Zbn) (by as_aux_lemma=>kernel_rfl)) (by as_aux_lemma=>kernel_rfl)) (by as_aux_lemma=>kernel_rfl)) (by as_aux_lemma=>kernel_rfl))
theorem ZpF:Rows.auditDetectsRow.holds Tryz.pinned (OpenSpec.ofChange Rows.auditDetectsSpec):=
 OpenClaim.holds_of_wide 5 Tryz.f5 rfl rfl rfl rfl rfl rfl rfl ⟨rfl,rfl,rfl,rfl,rfl⟩ rfl rfl rfl rfl rfl (by as_aux_lemma=>kernel_rfl) func5 ZgT
  (of_decide_eq_true (by as_aux_lemma=>kernel_rfl)) (by unfold Func.isWrapper; first | (rw [if_pos (by decide+kernel)]; kernel_rfl) | (rw [if_neg (by decide+kernel)]; exact ⟨rfl,rfl⟩))
  (fun os started H enc _=>ZhX os started H enc)
theorem proved:Rows.AuditDetectsSaid:=ZpF
end
end Go.Proofs.YtobgbcdgffgdhaaGreat
