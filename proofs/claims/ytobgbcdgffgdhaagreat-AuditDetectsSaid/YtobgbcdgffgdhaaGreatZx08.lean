/- Part 8 of 34: L07Excl L07Two L07AddV L07SetV L07SetO L07SetW L07AllV L16Pair L16Plain Whole WrapW L07Refs Seqs. -/
import Derived.Test.YtobgbcdgffgdhaaGreatZx00
import Derived.Test.YtobgbcdgffgdhaaGreatZx07
namespace Go.Proofs.YtobgbcdgffgdhaaGreat
set_option linter.unusedVariables false
set_option linter.unusedSimpArgs false
set_option maxRecDepth 100000
set_option maxHeartbeats 8000000
open _root_.Array renaming getElem?_eq_some_iff -> Yj, replicate -> QI
open _root_.Go.RowKit renaming Below -> Zp
open _root_.Go.RowKit.Below renaming refl -> Zn
open _root_.Go.Proofs.YtobgbcdgffgdhaaGreat.Zu renaming alloc -> YK, drew -> Km, drewN -> XD, new -> Zs
open _root_.Bool renaming and_eq_true -> YL
open _root_.Go renaming Calls -> Zv, NoPanic -> QO, Operand -> YW, Program -> YV, TypeId -> ZL, Value -> Zl, World -> Zc, execOp -> XU, heap_alloc_new -> ZB, maxLen -> XL, ready_mono -> UW, run_part_plain -> Qr, wpQuiet -> Yl
open _root_.Go.Instr renaming buildSlice -> Xs, loadAt -> Gc
open _root_.Int renaming toNat_natCast -> Y7
open _root_.Go.Proofs.YtobgbcdgffgdhaaGreat.ZA renaming of_below -> Y9, refl -> ZS
open _root_.Go.Lib renaming run_eql_slice_nil -> Uq
open _root_.List renaming append_assoc -> Qd, cons_append -> Yf, eq_nil_of_length_eq_zero -> ZO, flatMap_cons -> Jh, getD_eq_getElem?_getD -> Zo, getElem?_eq_getElem -> Zg, getElem?_eq_some_iff -> Zk, getElem?_map -> ZM, getElem?_set_ne -> Yn, length_cons -> Yg, length_set -> Xb, mem_cons -> ZX, mem_of_getElem? -> Zz, take_append_drop -> QS
open _root_.Nat renaming le_refl -> Zh, mul_le_mul_right -> Qe, zero_mul -> JL
open _root_.Ne renaming symm -> Ji
open _root_.Go.Op renaming eqFields -> Vh, equalIn -> Bd
open _root_.Option.some renaming injEq -> QW
open _root_.Go.Region renaming Mode -> J9, binds -> Xp, noSelect -> Qp, ready -> YA
open _root_.Go.Result renaming andThen_ok -> ZY
open _root_.Go.Sem renaming run_bind -> Yq, run_pure -> YX
open _root_.Go.Proofs.Tryz renaming prog -> Zb
open _root_.Go.Value renaming ownBlock -> YZ, slice -> Ys
open _root_.Go.World.ownsRow renaming alloc -> X5
open _root_.Go.World renaming setRow_alloc_new -> Zq
open Go.Proofs.Tryz
theorem dB {G:Prop}(h:G:=by rw [HN.o]; exact Nat.le_refl _) :G:=h
theorem Lu {G:Prop}(h:G:=by simp only; omega) :G:=h
theorem mK {G:Prop}(h:G:=by have:=Zu.new (w.alloc (.cells #[.pointer (some ⟨b,0,none⟩)] 83)) 68 (Ze v); simpa using this) :G:=h
theorem BW {G:Prop}(h:G:=by simp [Value.oneCell']) :G:=h
theorem Vx {G:Prop}(h:G:=by unfold maxLen; omega) :G:=h
theorem Yd {G:Prop}(h:G:=by have:=HN.o; omega) :G:=h
theorem Ec {G H:Prop} (k:H) (h:Dq H->G:=by
  intro zk;iterate 3 (go_big_quiet_step ((intros; rfl)))
  exact zk.o) :G:=h ⟨k⟩
theorem ZlT {G H:Prop} (k:H) (h:Dq H->G:=by
  intro zk;refine UQ (fun w'=>w'.cell? ⟨n0,0,none⟩=some (.pointer (some ⟨b,0,none⟩))/\w'.cell? ⟨b,4,none⟩=some (.int .u64 T)/\w'.cell? ⟨n0+2,0,none⟩=some (.int .u64 old.bal)/\w'.cell? ⟨n0+1,0,none⟩=some (.int .u64 v.bal)) (m:=15) (f:=6) [0,1,2,3,4,5,6,7,8] (fun _ _=>trivial) ZC Ri.o ?_;exact zk.o) :G:=h ⟨k⟩
theorem ZlU {G H:Prop} (k:H) (h:Dq H->G:=by
  intro zk;refine TS (fun w'=>w'.cell? ⟨n0,0,none⟩=some (.pointer (some ⟨b,0,none⟩))/\w'.cell? ⟨b,4,none⟩=some (.int .u64 T)/\w'.cell? ⟨n0+2,0,none⟩=some (.int .u64 old.bal)/\w'.cell? ⟨n0+1,0,none⟩=some (.int .u64 v.bal)) (m:=4) (f:=0) [11,12,13,14] S3 ?_;exact zk.o) :G:=h ⟨k⟩
theorem ZlV {G H:Prop} (k:H) (h:Dq H->G:=by
  intro zk;refine Hs func220 rfl ?_;simp only [ntmps220,List.size_toArray,List.length_cons,List.length_nil,Nat.reduceAdd,Nat.reduceSub,Array.replicate_succ,Array.replicate_zero,List.push_toArray,List.append_toArray,List.nil_append,List.cons_append];exact zk.o) :G:=h ⟨k⟩
theorem dO {G H:Prop} (k:H) (h:Dq H->G:=by
  intro zk;show wpQuiet _ _ _ _ [_,_,_,_,_,_] _;exact zk.o) :G:=h ⟨k⟩
theorem td {G H:Prop} (k:H) (h:Dq H->G:=by
  intro zk;show wpQuiet _ _ _ _ [_,_,_,_,_,_,_,_,_] _;exact zk.o) :G:=h ⟨k⟩
theorem je {G H:Prop} (k:H) (h:Dq H->G:=by
  intro zk;show wpQuiet _ _ _ _ [_,_] _;exact zk.o) :G:=h ⟨k⟩
theorem P8 {G H:Prop} (k:H) (h:Dq H->G:=by
  intro zk;refine JC (i:=7) ?_;exact zk.o) :G:=h ⟨k⟩
theorem CF {G:Prop} (h:G:=by
  rw [h1] at hq
  cases hq) :G:=h
theorem zT9 {G:Prop} (h:G:=by
  clear x0 x1 c2 c3 c4 f3 f4 HB HK HE W;obtain ⟨-,-,c2,-,-⟩:=HR.o.cells;refine BU 8 ?_;refine BY ?_;refine ZlZ ?_;refine X7 ?_
  repeat (go_big_quiet_step (fail))
  refine Yo ?_;intro _ JG;obtain ⟨n3,Xk⟩:=JG;subst Xk;refine Lp rfl _ _ _ rfl (HR.o.2.drewN n3) underlying3 underlying144 v.st (cs - 1) rfl rfl rfl HW.o ?_;intro W3 hc3 hg3;have HZ:=Za (And.intro ((HR.o.drewN n3).counted hc3 hg3) ((Sn.o.drewN n3).trans (ZA.of_grown (S:=fun i=>i=m) hg3 (fun i hi=>by injection hi)) (fun i _ e=> .inr e)));have c23:=(c2:W2.cell? ⟨b,2,none⟩=_);have z1:W3.cell? ⟨n0,1,none⟩=some (.int .i64 v.st):=(World.cell?_of_block (w:=W2) (a:=⟨n0,1,none⟩) (hg3.block n0 (GW y1) (by intro e; injection e with e; subst e; obtain ⟨es,clock,hm,_⟩:=HR.o.2; simp [World.cell?,hm] at y1))).trans y1;have HC3:=Za hc3;clear hc3 hg3 y1 c2 c23;have d2:=HZ.o.1.cells.2.2.1;have Bv:PU c v.st (cs - 1) v.st=cs - 1:=by simp [PU]
  have HS:=Za Bv;clear Bv;go_wp2;simp only [Act.put];refine Kk (fun w'=> ∃n,w'=W3.drewN n) ZC ZC ⟨1,rfl⟩ ?_;iterate 6 (go_big_quiet_step (fail))
  refine ou _ _ rfl rfl (fun w h=>by obtain ⟨n,rfl⟩:=h; exact HC3.o.drewN n) underlying3 underlying144 Ni v.st rfl rfl HW.o ?_;rw [HS.o];refine X7 ?_
  repeat (go_big_quiet_step (fail))
  refine Yo ?_;intro _ JG;obtain ⟨n4,Xk⟩:=JG;subst Xk
  by_cases hz:((cs - 1:Int)==0)=true
  ·go_wp2_with fail;refine BU 6 ?_;refine BY ?_
   repeat (go_big_quiet_step (fail))
   refine Yo ?_;intro _ JG;obtain ⟨n5,Xk⟩:=JG;subst Xk;refine Cy rfl _ _ rfl ((HC3.o.drewN n4).drewN n5) underlying3 underlying144 v.st rfl rfl HW.o (by rw [HS.o]; simpa using hz) ?_;intro W4 hc4 hg4;have HY:=Za (And.intro (J3.counted ((HZ.o.1.drewN n4).drewN n5) hc4 hg4) (((HZ.o.2.drewN n4).drewN n5).trans (ZA.of_grown (S:=fun i=>i=m) hg4 (fun i hi=>by injection hi)) (fun i _ e=> .inr e)));clear hc4 hg4;go_wp2;go_end0;exact ⟨rfl,HY.o⟩
  ·have hz:((cs - 1:Int)==0)=false:=by simpa using hz
   go_wp2_with fail;go_end0;exact ⟨rfl,HZ.o.1.drewN n4,HZ.o.2.drewN n4⟩) :G:=h
theorem Zmj {G:Prop} (h:G:=by
  have e1:=J4 hi ZU;have e2:=Hn hi ZU;have e3:=IJ hi ⟨0,old.st+1,false,0,0,0,0⟩ old.st;have Zcn: ∀x ∈ l.set i ZU,Yp x:=fun x hx=>by
   rcases List.mem_or_eq_of_mem_set hx with hx | rfl
   ·exact hf x hx
   ·exact ⟨by decide,by decide⟩
  have a1:=JP Zcn;have a2:=Da Zcn;have a3:=Gg (l.set i ⟨0,old.st+1,false,0,0,0,0⟩) old.st;have z1:ZU.bal=0:=rfl;have z2:XN ZU=0:=rfl;simp only [if_true] at e3;rw [if_neg Zf] at e3;refine ⟨by omega,by omega,by omega,by omega⟩) :G:=h
theorem Zm6 {G:Prop} (h:G:=by
  rw [<-hw3];exact ⟨ZJ _ Ri.o.1,ZJ _ Ri.o.2.1,ZJ _ Ri.o.2.2.1,ZJ _ Ri.o.2.2.2⟩) :G:=h
theorem ZeP {G:Prop} (h:G:=by
  have:=h.1;unfold Zu at this;rw [h3] at this;injection this with this;injection this with _ h9;exact absurd h9 Y5) :G:=h
theorem ZeS {G:Prop} (h:G:=by
  go_roundw
  case rel=>exact ⟨k+1,by omega,by go_num,Za HZ.o.1,HZ.o.2⟩
  case measure=>simp [intOf]; omega) :G:=h
theorem yP {G:Prop} (h:G:=by
  refine ⟨h.1,h.2.imp id ?_⟩;rintro ⟨g,cp,cur,rfl,h1,h2⟩;exact ⟨g,cp,cur,rfl,by omega,h2⟩) :G:=h
theorem Zfc {G:Prop} (h:G:=by
  refine ⟨h.1,h.2.imp id ?_⟩;rintro ⟨g,cp,cur,rfl,h1,h2⟩;exact ⟨g,cp,cur,rfl,hB g rfl,h2⟩) :G:=h
theorem ZfB {G:Prop} (h:G:=by
  exact ⟨0,by omega,rfl,Za (World.ownsRow_nil _ _ _ _),Below.refl _ _⟩) :G:=h
theorem yY {G:Prop} (h:G:=by
  rw [List.getD_eq_getElem?_getD,List.getElem?_eq_getElem Zf];rfl) :G:=h
theorem y8 {G:Prop} (h:G:=by
  go_wp2;go_ret;exact ⟨_,rfl,World.ownsRow_nil _ _ _ _,Below.refl _ _⟩) :G:=h
theorem ZfM {G:Prop} (h:G:=by
  rw [<-OQ];exact ⟨ZJ _ X4.o,ZJ _ Y0.o⟩) :G:=h
theorem po {G:Prop} (h:G:=by
  rw [h1] at hq;simp [Value.ownBlock] at hq;omega) :G:=h
theorem jl {G:Prop} (h:G:=by
  rw [List.getElem?_set_ne Kj];exact hj) :G:=h
theorem pA {G:Prop} (h:G:=by
  rw [List.take_add_one,h];rfl) :G:=h
section
open Go Go.RowKit Go.Deep
theorem fI (b m cap:Nat)(s:Zl)(c:Int->Int)(A T:Int)(v:ZN)(w:Zc)(h:J3 w b m s cap c A T)(hv:Yp v)(hl:QG v.st=true)
  (Tv:v.bal<=A) (hA:A<=18446744073709551615) (kx:v.bal<=T) (hT:T<=18446744073709551615) (RG:1<=c v.st) (OO:c v.st<=4096) :
  Mb Zb 220 #[.pointer (some ⟨b,0,none⟩),.agg (Ze v)] w fun e w'=>e= .returned (.tuple #[])/\J3 w' b m s cap (PU c v.st (c v.st - 1)) (A - v.bal) (T - v.bal)/\ZA (fun i=>i=b\/i=m) w w':=by
 have HL:Zj (∀w,Y6 103 #[.int .i64 v.st] w (.bool true)):=Za (fun w=>by have:=MF v.st w; rwa [hl] at this);have hK:ZA (fun i=>i=b\/i=m) w (w.alloc (.cells (Ze v) 68)):=(ZS _ w).alloc _;have hE:Zu (w.alloc (.cells (Ze v) 68)) w.heap.size 68 (Ze v):=Zs _ _ _;have Kj: ¬w.heap.size=b:=by have:=h.1.lt; omega
 have HB:=Za (h.alloc (.cells (Ze v) 68));have x0:(w.alloc (.cells (Ze v) 68)).cell? ⟨w.heap.size,0,none⟩=some (.int .u64 v.bal):=hE.cell 0;have x1:(w.alloc (.cells (Ze v) 68)).cell? ⟨w.heap.size,1,none⟩=some (.int .i64 v.st):=hE.cell 1;obtain ⟨-,-,c2,c3,c4⟩:=HB.o.cells;have f3:=HB.o.1.frozen 3;have f4:=HB.o.1.frozen 4;have v0:=hv.bal.1;have HE:=Za hE;have HK:=Za hK;have HW:=Za hv.2;obtain ⟨cs,Hk⟩:=ZR (c v.st);rw [Hk] at RG OO ⊢;have HCS:=Za Hk;obtain ⟨n0,LG⟩:=ZR (w.heap.size);have nU: ¬n0=b:=by rw [<-LG]; exact Kj
 clear Kj;clear h hE hK hv hl Hk;refine ZlV ?_;go_wp2;generalize w.alloc (.cells (Ze v) 68)=W at*;rw [LG] at*;refine BU 9 ?_;refine BY ?_
 repeat (go_big_quiet_step (fail))
 refine Yo ?_;intro _ JG;obtain ⟨n1,Xk⟩:=JG;subst Xk;go_wp2_with fail;refine (HL.o _).mono ?_;rintro e w2 ⟨rfl,rfl⟩;go_wp2_with fail;refine BU 9 ?_;refine BY ?_
 repeat (go_big_quiet_step (fail))
 refine Yo ?_;intro _ JG;obtain ⟨n2,Xk⟩:=JG;subst Xk;go_wp2_with fail;have HR:=Za ((((HB.o.drewN n1).total (T - v.bal)).drewN n2).active (A - v.bal));have Sn:Zj (ZA (fun i=>i=b\/i=m) w ((((W.drewN n1).setCell ⟨b,4,none⟩ (.int .u64 (T - v.bal))).drewN n2).setCell ⟨b,3,none⟩ (.int .u64 (A - v.bal)))):=Za ((((HK.o.drewN n1).setCell (.inl (.inl rfl)) _).drewN n2).setCell (.inl (.inl rfl)) _);have y1:((((W.drewN n1).setCell ⟨b,4,none⟩ (.int .u64 (T - v.bal))).drewN n2).setCell ⟨b,3,none⟩ (.int .u64 (A - v.bal))).cell? ⟨n0,1,none⟩=some (.int .i64 v.st):=(Zu.far (XD (Zu.far (XD HE.o n1) nU _) n2) nU _).cell 1;generalize (((W.drewN n1).setCell ⟨b,4,none⟩ (.int .u64 (T - v.bal))).drewN n2).setCell ⟨b,3,none⟩ (.int .u64 (A - v.bal))=W2 at*;exact zT9
theorem fH (b m cap:Nat)(s:Zl)(c:Int->Int)(A T:Int)(v:ZN)(w:Zc)(h:J3 w b m s cap c A T)(hv:Yp v)(hl:QG v.st=false)
  (kx:v.bal<=T) (hT:T<=18446744073709551615) (RG:1<=c v.st) (OO:c v.st<=4096) :
  Mb Zb 220 #[.pointer (some ⟨b,0,none⟩),.agg (Ze v)] w fun e w'=>e= .returned (.tuple #[])/\J3 w' b m s cap (PU c v.st (c v.st - 1)) A (T - v.bal)/\ZA (fun i=>i=b\/i=m) w w':=by
 have HL:Zj (∀w,Y6 103 #[.int .i64 v.st] w (.bool false)):=Za (fun w=>by have:=MF v.st w; rwa [hl] at this);have hK:ZA (fun i=>i=b\/i=m) w (w.alloc (.cells (Ze v) 68)):=(ZS _ w).alloc _;have hE:Zu (w.alloc (.cells (Ze v) 68)) w.heap.size 68 (Ze v):=Zs _ _ _;have Kj: ¬w.heap.size=b:=by have:=h.1.lt; omega
 have HB:=Za (h.alloc (.cells (Ze v) 68));have x0:(w.alloc (.cells (Ze v) 68)).cell? ⟨w.heap.size,0,none⟩=some (.int .u64 v.bal):=hE.cell 0;have x1:(w.alloc (.cells (Ze v) 68)).cell? ⟨w.heap.size,1,none⟩=some (.int .i64 v.st):=hE.cell 1;obtain ⟨-,-,c2,c3,c4⟩:=HB.o.cells;have f3:=HB.o.1.frozen 3;have f4:=HB.o.1.frozen 4;have v0:=hv.bal.1;have HE:=Za hE;have HK:=Za hK;have HW:=Za hv.2;obtain ⟨cs,Hk⟩:=ZR (c v.st);rw [Hk] at RG OO ⊢;have HCS:=Za Hk;obtain ⟨n0,LG⟩:=ZR (w.heap.size);have nU: ¬n0=b:=by rw [<-LG]; exact Kj
 clear Kj;clear h hE hK hv hl Hk;refine ZlV ?_;go_wp2;generalize w.alloc (.cells (Ze v) 68)=W at*;rw [LG] at*;refine BU 9 ?_;refine BY ?_
 repeat (go_big_quiet_step (fail))
 refine Yo ?_;intro _ JG;obtain ⟨n1,Xk⟩:=JG;subst Xk;go_wp2_with fail;refine (HL.o _).mono ?_;rintro e w2 ⟨rfl,rfl⟩;go_wp2_with fail;have HR:=Za ((HB.o.drewN n1).total (T - v.bal));have Sn:Zj (ZA (fun i=>i=b\/i=m) w ((W.drewN n1).setCell ⟨b,4,none⟩ (.int .u64 (T - v.bal)))):=Za ((HK.o.drewN n1).setCell (.inl (.inl rfl)) _);have y1:((W.drewN n1).setCell ⟨b,4,none⟩ (.int .u64 (T - v.bal))).cell? ⟨n0,1,none⟩=some (.int .i64 v.st):=(Zu.far (XD HE.o n1) nU _).cell 1;generalize (W.drewN n1).setCell ⟨b,4,none⟩ (.int .u64 (T - v.bal))=W2 at*;exact zT9
theorem fG (b m cap:Nat)(s:Zl)(c:Int->Int)(A T:Int)(v:ZN)(w:Zc)(h:J3 w b m s cap c A T)(hv:Yp v)
  (Tv:XN v<=A) (hA:A<=T) (kx:v.bal<=T) (hT:T<=18446744073709551615) (RG:1<=c v.st) (OO:c v.st<=4096) :
  Mb Zb 220 #[.pointer (some ⟨b,0,none⟩),.agg (Ze v)] w fun e w'=>e= .returned (.tuple #[])/\J3 w' b m s cap (PU c v.st (c v.st - 1)) (A - XN v) (T - v.bal)/\ZA (fun i=>i=b\/i=m) w w':=by
 have v0:=hv.bal.1
 cases hl:QG v.st with
 | true=>
  have e:XN v=v.bal:=by simp [XN,hl]
  rw [e] at Tv ⊢;exact fI b m cap s c A T v w h hv hl Tv Zf kx hT RG OO
 | false=>
  have e:A - XN v=A:=by simp [XN,hl]
  rw [e];exact fH b m cap s c A T v w h hv hl kx hT RG OO
end
section
open Go Go.RowKit Go.Deep
theorem yp:(Tryz.prog.info? 68).map (fun i=>(i.zero,i.size))=some (some (.agg (Ze ZU)),7):=ZC
section
variable {P:YV}
theorem Oz (w:Zc)(T e:ZL)(i:TypeInfo)(z:Zl)(v:ZN)(ht:P.underlying T=some (.slice e))(hi:P.info? e=some i)(hz:i.zero=some z)(hs:i.size=7) :
  (Xs T 1 #[(0,.agg (Ze v))]).run P w= .ok (.slice (some ⟨w.heap.size,0,none⟩) 1 1) (w.alloc (.cells (Ze v) e)):=by
 simp [Xs,run_underlying ht,sizeOf,typeInfo,hi,hs,zeroValue,hz,Instr.fill,newRow,Value.cells,Ze,ZN.row];simp [go_sem]
theorem P4 {o:Oper}{a:Act}{w:Zc}{K:Act->Zc->Prop}{Q:Exit->Act->Zc->Prop}(T e:ZL)(x:YW)(z:Zl)(v:ZN)(ho:o.op= .buildSlice T 1 #[(0,x)])(hx:a.eval x= .agg (Ze v))(ht:P.underlying T=some (.slice e))(hI:(P.info? e).map (fun i=>(i.zero,i.size))=some (some z,7))
  (h:K (a.put o.dst (.slice (some ⟨w.heap.size,0,none⟩) 1 1)) (w.alloc (.cells (Ze v) e))) :o.wp P a w K Q:=by
 obtain ⟨i,hi,hz,hs⟩:=PB hI;unfold Oper.wp XU;simp only [ho,List.map_toArray,List.map_cons,List.map_nil,hx,Yq,Oz w T e i z v ht hi hz hs,ZY,YX];exact h
end
theorem rC (w:Zc)(v:ZN)(t:ZL) : ∀j u,v.row[j]?=some u->(w.alloc (.cells (Ze v) t)).cell? ((⟨w.heap.size,0,none⟩ :Addr).add j)=some u:=fun j u hu=>by
 rw [add_plain];have:=(Zs w t (Ze v)).range j u hu;exact this
theorem dq: ∃i,Tryz.prog.info? 68=some i/\i.zero=some (.agg (Ze ZU))/\i.size=7/\i.bytes=56:=by
 have h:(Tryz.prog.info? 68).map (fun i=>(i.zero,i.size,i.bytes))=some (some (.agg (Ze ZU)),7,56):=ZC
 cases hi:Tryz.prog.info? 68 with
 | none=>rw [hi] at h; cases h
 | some i=>
  rw [hi] at h;simp at h;exact ⟨i,rfl,h.1,h.2.1,h.2.2⟩
end
section
open Go Go.RowKit Go.Deep
theorem pM (b cap cp:Nat)(a:Option Addr)(v:ZN)(w:Zc)(h0:w.cell? ⟨b,0,none⟩=some (.int .i64 cap))(h1:w.cell? ⟨b,1,none⟩=some (.slice a cap cp)) :
  Z3 169 #[.pointer (some ⟨b,0,none⟩),.agg (Ze v)] w (.tuple #[.int .i64 (-1),.int .i64 5]):=by
 have x0:=ZJ (.cells (Ze v) 68) h0;have x1:=ZJ (.cells (Ze v) 68) h1;clear h0 h1;go_enter_defers func169,ntmps169;go_wp2;exact ⟨_,results_tmp2 rfl _ _ _,rfl,(Zn _ _).alloc (Zh _) _⟩
theorem pN (b cap cp n:Nat)(a:Option Addr)(T:Int)(v:ZN)(w:Zc)(h0:w.cell? ⟨b,0,none⟩=some (.int .i64 cap))(h1:w.cell? ⟨b,1,none⟩=some (.slice a n cp))(h4:w.cell? ⟨b,4,none⟩=some (.int .u64 T))
  (hn:n < cap) (hc:cap<=4096) (hv:Yp v) (kx:0<=T) (hT1:T<=18446744073709551615) (hT:18446744073709551615 < T+v.bal) :
  Z3 169 #[.pointer (some ⟨b,0,none⟩),.agg (Ze v)] w (.tuple #[.int .i64 (-1),.int .i64 10]):=by
 have x0:=ZJ (.cells (Ze v) 68) h0;have x1:=ZJ (.cells (Ze v) 68) h1;have x4:=ZJ (.cells (Ze v) 68) h4;have hB:Zp w.heap.size w (w.alloc (.cells (Ze v) 68)):=(Zn _ _).alloc (Zh _) _;have y0:(w.alloc (.cells (Ze v) 68)).cell? ⟨w.heap.size,0,none⟩=some (.int .u64 v.bal):=(Zs w 68 (Ze v)).cell 0;obtain ⟨v0,v1⟩:=hv.bal;have hnc:((n:Int)==(cap:Int))=false:=Xo;have X4:=Za x4;have Y0:=Za y0;have HB:=Za hB;clear h0 h1 h4 x4 y0 hB hv;go_enter_defers func169,ntmps169;go_wp2;generalize w.alloc (.cells (Ze v) 68)=W at*;refine L5 (fun _=>True) 12 12 [] trivial ?_;refine Yo ?_;refine UQ (fun w'=>w'.cell? ⟨b,4,none⟩=some (.int .u64 T)/\w'.cell? ⟨w.heap.size,0,none⟩=some (.int .u64 v.bal)) (m:=12) (f:=6) [0,1,2,3,4,5] (fun _ _=>trivial) ZC ⟨X4.o,Y0.o⟩ ?_;refine JH ?_;refine dO ?_;refine Ec ?_;refine KY 23 _ (.int .u64 T) (fun w h=>h.1) ?_;refine X7 ?_;refine U4 ?_;refine KY 23 _ (.int .u64 v.bal) (fun w h=>h.2) ?_;refine X7 ?_;refine Yo ?_;refine Lz ?_;refine Yv rfl rfl (Qu 121 23 (.tmp 26) (.tmp 28) _ _ (.int .u64 T) (.int .u64 v.bal) rfl rfl rfl underlying121 EI rfl rfl rfl ⟨⟨ZJ _ X4.o,ZJ _ Y0.o⟩,?_⟩);refine P8 ?_;refine Ee ?_;refine JA #[.slice (some ⟨W.drew.heap.size,0,none⟩) 2 2] call101 ((Wn W.drew.heap.size T v.bal _ (Zs W.drew _ _) kx hT1 v0 v1 Zf).mono ?_);rintro e w2 ⟨rfl,OQ⟩;have B2:Zp w.heap.size w w2:=OQ▸HB.o.drew.alloc HB.o.size _;have S2:w2.cell? ⟨b,4,none⟩=some (.int .u64 T)/\w2.cell? ⟨w.heap.size,0,none⟩=some (.int .u64 v.bal):=ZfM
 refine ⟨_,rfl,S2,?_⟩;clear OQ;refine Ee ?_;refine TS (fun w'=>w'.cell? ⟨b,4,none⟩=some (.int .u64 T)/\w'.cell? ⟨w.heap.size,0,none⟩=some (.int .u64 v.bal)) (m:=4) (f:=0) [8,9,10,11] S2 ?_;refine JH ?_;refine Hg ?_;refine Dw ?_;refine Yo ?_;refine GD ?_;refine ⟨by kernel_rfl,?_⟩;refine LA ?_;go_wp2;refine U1 ?_;go_wp2;exact ⟨_,results_tmp2 rfl _ _ _,rfl,B2⟩
theorem Zba (b cap m:Nat)(s:Zl)(l:List ZN)(v:ZN)(w:Zc)(h:J3 w b m s cap (Xj l) (Yh l) (Zw l))(ho:w.ownsRow 0 68 7 s l.length (XC l))
  (hn:l.length < cap) (hc:cap<=4096) (hf: ∀x ∈ l,Yp x) (hv:Yp v) (hT:Zw l+v.bal<=18446744073709551615) :
  Zv Zb 169 #[.pointer (some ⟨b,0,none⟩),.agg (Ze v)] w fun e w'=>e= .returned (.tuple #[.int .i64 l.length,.int .i64 0])/\ ∃s',J3 w' b m s' cap (Xj (l++[v])) (Yh (l++[v])) (Zw (l++[v]))/\w'.ownsRow 0 68 7 s' (l.length+1) (XC (l++[v]))/\
   (s'.ownBlock=s.ownBlock\/ ∃q,s'.ownBlock=some q/\w.heap.size<=q)/\ZA (fun i=>i=b\/i=m\/s.ownBlock=some i) w w':=by
 obtain ⟨a,cp,rfl,vC,vD⟩:=UT ho;obtain ⟨Tv,hA⟩:=Da hf;have kx:=JP hf;have hcb:=Gg l v.st;obtain ⟨v0,v1⟩:=hv.bal;have HB:=Za (h.alloc (.cells (Ze v) 68));have HO:=Za (ho.alloc (.cells (Ze v) 68));have HLT:Zj (∀i,(Ys a l.length cp).ownBlock=some i->i < w.heap.size):=Za (fun i hi=>(ho.lt i hi).2);have Pq:=h.1.lt;have tx:=h.2.lt;have HNE:Zj ((Ys a l.length cp).ownBlock≠some b/\(Ys a l.length cp).ownBlock≠some m):=Za (by
  rcases ho.2 with ⟨h1,_⟩ | ⟨g,Bg,cur,h1,_,h3,_⟩
  ·rw [h1]; simp [YZ]
  ·rw [h1];simp only [YZ,ne_eq,QW];refine ⟨?_,?_⟩
   ·rintro rfl; exact ZeP
   ·rintro rfl; obtain ⟨es,clock,h9,_⟩:=h.2; rw [h3] at h9; cases h9)
 have HE:Zj (Zu (w.alloc (.cells (Ze v) 68)) w.heap.size 68 (Ze v)):=Za (Zs _ _ _);have HK:Zj (ZA (fun i=>i=b\/i=m\/(Ys a l.length cp).ownBlock=some i) w (w.alloc (.cells (Ze v) 68))):=Za ((ZS _ w).alloc _);obtain ⟨x0,x1,x2,x3,x4⟩:=HB.o.cells;have X1:=Za x1;have X4:=Za x4;have Y0:=Za (HE.o.cell 0);have hnc:((l.length:Int)==(cap:Int))=false:=Xo;have HV:=Za hv;have Px:w.heap.size<=(w.alloc (.cells (Ze v) 68)).heap.size:=ZE;obtain ⟨n0,LG⟩:=ZR (w.heap.size);rw [LG] at Pq tx Px HLT HE Y0;clear h ho x2 x3 x4 hf hv;go_enter_defers func169,ntmps169;go_wp2;generalize w.alloc (.cells (Ze v) 68)=W at*;have hWn:n0 < W.heap.size:=HE.o.lt;obtain ⟨T,qX⟩:=ZR (Zw l);rw [qX] at X4 hT kx hA;refine L5 (fun _=>True) 12 12 [] trivial ?_;refine Yo ?_;refine UQ (fun w'=>w'.cell? ⟨b,4,none⟩=some (.int .u64 T)/\w'.cell? ⟨n0,0,none⟩=some (.int .u64 v.bal)) (m:=12) (f:=6) [0,1,2,3,4,5] (fun _ _=>trivial) ZC ⟨X4.o,Y0.o⟩ ?_;refine JH ?_;refine dO ?_;refine Ec ?_;refine KY 23 _ (.int .u64 T) (fun w h=>h.1) ?_;refine X7 ?_;refine U4 ?_;refine KY 23 _ (.int .u64 v.bal) (fun w h=>h.2) ?_;refine X7 ?_;refine Yo ?_;refine Lz ?_;refine Yv rfl rfl (Qu 121 23 (.tmp 26) (.tmp 28) _ _ (.int .u64 T) (.int .u64 v.bal) rfl rfl rfl underlying121 EI rfl rfl rfl ⟨⟨ZJ _ X4.o,ZJ _ Y0.o⟩,?_⟩);refine P8 ?_;refine Ee ?_;refine JA #[.slice (some ⟨W.drew.heap.size,0,none⟩) 2 2] call101 ((Wo W.drew.heap.size T v.bal _ (Zs W.drew _ _) kx v0 hT).mono ?_);rintro e w2 ⟨rfl,OQ⟩;have S2:w2.cell? ⟨b,4,none⟩=some (.int .u64 T)/\w2.cell? ⟨n0,0,none⟩=some (.int .u64 v.bal):=ZfM
 refine ⟨_,rfl,S2,?_⟩;have H2:Zj (J3 w2 b m (.slice a l.length cp) cap (Xj l) (Yh l) T/\w2.ownsRow 0 68 7 (.slice a l.length cp) l.length (XC l)/\Zu w2 n0 68 (Ze v)/\ZA (fun i=>i=b\/i=m\/(Ys a l.length cp).ownBlock=some i) w w2/\W.heap.size<=w2.heap.size):=
  Za (OQ▸⟨by rw [<-qX]; exact (HB.o.drewN 1).alloc _,X5 (w:=W.drew) HO.o _,YK (Km HE.o) _,(HK.o.drew).alloc _,by simp⟩)
 clear OQ HB HO HE HK X1 X4 Y0 x0 x1;refine Ee ?_;refine TS (fun w'=>w'.cell? ⟨b,4,none⟩=some (.int .u64 T)/\w'.cell? ⟨n0,0,none⟩=some (.int .u64 v.bal)) (m:=4) (f:=0) [8,9,10,11] S2 ?_;refine JH ?_;refine Hg ?_;refine Dw ?_;refine Yo ?_;refine GD ?_;refine ⟨by kernel_rfl,?_⟩;refine LA ?_;go_wp2;refine U1 ?_;go_wp2_with (refine YT rfl 68 _ rfl n0 0 rfl v _ H2.o.2.2.1.range underlying68 rfl Ya ?_);have S3:=H2.o.1.cells.2.1;have S4:=H2.o.2.2.1.range;have hle:w2.heap.size<=w2.drew.heap.size:=Zh _;refine L5 (fun _=>True) 10 10 [] trivial ?_;refine Yo ?_;refine UQ (fun w'=>w'.cell? ⟨b,1,none⟩=some (.slice a l.length cp)/\w'.rangeAt n0 0 v.row) (m:=10) (f:=4) [0,1,2,3,4,5] (fun _ _=>trivial) ZC ⟨S3,S4⟩ ?_;refine JH ?_;refine dO ?_;refine Dw ?_;refine KY 22 _ (.slice a l.length cp) (fun w h=>h.1) ?_;refine X7 ?_;refine Vv 68 (.tmp 3) n0 0 v _ rfl rfl rfl (fun w h=>h.2) underlying68 rfl Ya ?_;refine X7 ?_;refine Yo ?_;refine Lz ?_;refine Yv rfl rfl (P4 22 68 (.tmp 42) _ v rfl rfl underlying22 yp ⟨⟨ZJ _ S3,fun j u hu=>ZJ _ (S4 j u hu)⟩,?_⟩);refine P8 ?_;refine Ee ?_;obtain ⟨i,hi,hz,hs7,Ns⟩:=dq;refine Yv rfl rfl (GP _ (.tmp 41) (.tmp 43) 22 rfl 0 68 i _ 7 56 underlying22 hi hz hs7 Ns (Sy _) Zf (.slice a l.length cp) l.length (XC l) rfl (X5 (w:=w2.drew) H2.o.2.1 _)
  (some ⟨w2.drew.heap.size,0,none⟩) 1 1 v.row rfl rfl (fun _=>⟨_,rfl,rC _ _ _⟩) (row_one v) Vx Zf Zf ?_)
 intro s' w3 ho3 hg3 hs3;obtain ⟨a',Bg,rfl,-,-⟩:=UT ho3;have H3:Zj (J3 w3 b m (.slice a l.length cp) cap (Xj l) (Yh l) T/\w3.ownsRow 0 68 7 (.slice a' (l.length+1) Bg) (l.length+1) (XC (l++[v]))/\ZA (fun i=>i=b\/i=m\/(Ys a l.length cp).ownBlock=some i) w w3/\((Ys a' (l.length+1) Bg).ownBlock=(Ys a l.length cp).ownBlock\/ ∃q,(Ys a' (l.length+1) Bg).ownBlock=some q/\n0<=q)/\(Ys a' (l.length+1) Bg).ownBlock≠some b/\(Ys a' (l.length+1) Bg).ownBlock≠some m):=by
  have e1:J3 (w2.drew.alloc (.cells (Ze v) 68)) b m (.slice a l.length cp) cap (Xj l) (Yh l) T:=(H2.o.1.drewN 1).alloc _;have k1:ZA (fun i=>i=b\/i=m\/(Ys a l.length cp).ownBlock=some i) w (w2.drew.alloc (.cells (Ze v) 68)):=(H2.o.2.2.2.1.drew).alloc _;have BK:n0<=(w2.drew.alloc (.cells (Ze v) 68)).heap.size:=by have:=H2.o.2.2.2.2; simp; omega
  have ZhH:(Ys a' (l.length+1) Bg).ownBlock=(Ys a l.length cp).ownBlock\/ ∃q,(Ys a' (l.length+1) Bg).ownBlock=some q/\n0<=q:=hs3.imp id (fun h=>⟨_,h,BK⟩);refine Za ⟨⟨e1.1.grown hg3 (Ji HNE.o.1),e1.2.grown hg3 (Ji HNE.o.2)⟩,by rw [Ms,u9]; exact ho3,k1.trans (ZA.of_grown (S:=fun i=>some i=(Ys a l.length cp).ownBlock) hg3 (fun i hi=>hi)) (fun i _ e=> .inr (.inr e.symm)),ZhH,?_,?_⟩
  ·rcases ZhH with h | ⟨q,h,hq⟩<;> rw [h]
   ·exact HNE.o.1
   ·intro e; injection e; omega
  ·rcases ZhH with h | ⟨q,h,hq⟩<;> rw [h]
   ·exact HNE.o.2
   ·intro e; injection e; omega
 have S5:=H3.o.1.cells.2.1;have S6:w3.rangeAt n0 0 v.row:=fun j u hu=>hg3.cell (ZJ _ (S4 j u hu)) (by intro e; have:=HLT.o n0 e.symm; omega)
 refine ⟨⟨S5,S6⟩,?_⟩;clear ho3 hg3 hs3;refine Ee ?_;refine TS (fun w'=>w'.cell? ⟨b,1,none⟩=some (.slice a l.length cp)/\w'.rangeAt n0 0 v.row) (m:=2) (f:=0) [8,9] ⟨S5,S6⟩ ?_;refine JH ?_;refine je ?_;refine BZ ?_;refine Yo ?_;refine GD ?_;refine ⟨by kernel_rfl,?_⟩;refine LA ?_;have Z1:=H3.o.1.1.frozen 1;have HI:=Za (SK b m cap (.slice a' (l.length+1) Bg) (Xj l) (Yh l) T v (w3.setCell ⟨b,1,none⟩ (.slice a' (l.length+1) Bg)) (H3.o.1.list _) HV.o Tv hA hT hcb.1 Zf);clear S2 S3 S4 S6 H2 hi hz hs7 Ns;go_wp2;refine U1 ?_;go_wp2;refine leaves_cons (f:=214) (args:= #[.pointer (some ⟨b,0,none⟩),.agg (Ze v)]) ZE (by simp [go_sem]) ?_;refine (HI.o.2 _).mono ?_;rintro e u' w4 ⟨rfl,rfl,hr4,hk4⟩;refine ⟨_,results_tmp2 rfl _ _ _,rfl,.slice a' (l.length+1) Bg,?_,?_,?_,?_⟩
 ·have e1:Yh (l++[v])=Yh l+XN v:=by rw [Fx]; simp [Yh]
  have e2:Zw (l++[v])=T+v.bal:=by rw [Gq,qX]; simp [Zw]
  rw [e1,e2];refine ⟨hr4.1,hr4.2.congr (fun q=>?_)⟩;rw [D6];simp only [PU,Xj]
  by_cases hq:q=v.st
  ·subst hq; simp
  ·rw [if_neg hq,if_neg (fun e=>hq e.symm)]; omega
 ·refine Va H3.o.2.1 (fun i hi=>?_);have h1:i≠b:=by rintro rfl; exact H3.o.2.2.2.2.1 hi
  have h2:i≠m:=by rintro rfl; exact H3.o.2.2.2.2.2 hi
  have h3:=(H3.o.2.1.lt i hi).2;rw [hk4.block i (by simpa [World.setCell] using h3) (by rintro (h | h); exact h1 h; exact h2 h)];exact Below.heap_setCell _ _ _ _ h1
 ·rw [LG];exact H3.o.2.2.2.1
 ·exact (H3.o.2.2.1.setCell (.inl (.inl rfl)) _).trans hk4 (fun i _ hi=>hi.elim .inl (fun h=> .inr (.inl h)))
theorem tQ (b cap:Nat)(S:Nat->Prop)(l:List ZN)(v:ZN)(w:Zc)(h:OY w b S cap l)(hv:Yp v) :
  Zv Zb 169 #[.pointer (some ⟨b,0,none⟩),.agg (Ze v)] w fun e w'=>
   (l.length=cap/\e= .returned (.tuple #[.int .i64 (-1),.int .i64 5])/\Zp w.heap.size w w')\/
   (l.length < cap/\18446744073709551615 < Zw l+v.bal/\e= .returned (.tuple #[.int .i64 (-1),.int .i64 10])/\Zp w.heap.size w w')\/
   (l.length < cap/\Zw l+v.bal<=18446744073709551615/\e= .returned (.tuple #[.int .i64 l.length,.int .i64 0])/\ ∃S',OY w' b S' cap (l++[v])/\(∀i,S' i->S i\/w.heap.size<=i)/\ZA S w w'):=by
 obtain ⟨m,s,h1,h2,h3,h4,h5,h6,h7,hS⟩:=h;obtain ⟨a,cp,rfl,_,_⟩:=UT h2;obtain ⟨x0,x1,x2,x3,x4⟩:=h1.cells
 by_cases hc:l.length=cap
 ·rw [hc] at x1;exact (pM b cap cp a v w x0 x1).mono fun e w' ⟨he,hb⟩=> .inl ⟨hc,he,hb⟩
 ·by_cases ht:Zw l+v.bal<=18446744073709551615
  ·refine (Zba b cap m _ l v w h1 h2 Zf h4 h7 hv ht).mono fun e w' ⟨he,s',r1,r2,r3,r4⟩=> .inr (.inr ⟨by omega,ht,he,fun i=>i=b\/i=m\/s'.ownBlock=some i,⟨m,s',r1,by simpa using r2,h3,h4,by simp; omega,?_,?_,fun i=>Iff.rfl⟩,?_,?_⟩)
   ·rw [Gq]; simp [Zw]; omega
   ·intro x hx
    rcases List.mem_append.1 hx with hx | hx
    ·exact h7 x hx
    ·obtain rfl:=List.mem_singleton.1 hx;exact hv
   ·rintro i (rfl | rfl | hi)
    ·exact .inl ((hS _).2 (.inl rfl))
    ·exact .inl ((hS _).2 (.inr (.inl rfl)))
    ·rcases r3 with r3 | ⟨q,r3,hq⟩
     ·exact .inl ((hS i).2 (.inr (.inr (by rw [<-r3]; exact hi))))
     ·rw [r3] at hi;injection hi with hi;exact .inr Zf
   ·exact r4.more (fun i _ hi=>(hS i).2 hi)
  ·exact (pN b cap cp l.length a (Zw l) v w x0 x1 x4 Zf h4 hv (JP h7) h6 Zf).mono fun e w' ⟨he,hb⟩=> .inr (.inl ⟨by omega,by omega,he,hb⟩)
end
section
open Go Go.RowKit Go.Deep
section
variable {w a:Zc} {g t:Nat} {S:Nat->Prop}
theorem Gf: ∀(vs X Y Z:List Zl) (w:Zc),Y.length=vs.length->Zu w g t (X++Y++Z).toArray->Zu (w.setCells g X.length vs) g t (X++vs++Z).toArray
 | [],X,Y,Z,w,hl,h=>by
  obtain rfl:=ZO hl;exact h
 | v::vs,X,[],Z,w,hl,h=>by simp at hl
 | v::vs,X,y::Y,Z,w,hl,h=>by
  have h1:=h.set_ X.length v;have e:((X++(y::Y)++Z).toArray).setIfInBounds X.length v=((X++[v])++Y++Z).toArray:=by
   simp [List.set_append]
  rw [e] at h1;have:=Gf vs (X++[v]) Y Z _ dM h1;simpa [World.setCells] using this
theorem ZA.setCells (vs:List Zl) : ∀(o:Nat) (w:Zc),ZA S a w->S g\/a.heap.size<=g->ZA S a (w.setCells g o vs):=by
 induction vs with
 | nil=>exact fun o w h _=>h
 | cons v vs ih=>exact fun o w h hg=>ih (o+1) _ (h.setCell hg v) hg
theorem PH {l:List ZN}{i cp:Nat}{old:ZN}(h:w.ownsRow 0 68 7 (.slice (some ⟨g,0,none⟩) l.length cp) l.length (XC l))(hi:l[i]?=some old)(v:ZN) :
  (w.setCells g (i*7) v.row).ownsRow 0 68 7 (.slice (some ⟨g,0,none⟩) l.length cp) l.length (XC (l.set i v))/\w.there g (i*7) 7:=by
 have FX:=(Zk.1 hi).1
 rcases h.2 with ⟨h1,_⟩ | ⟨g',Bg,cur,h1,h2,h3,h4,h5,h6,h7⟩
 ·cases h1
 ·injection h1 with h1 _ vC;injection h1 with h1;injection h1 with h1;subst h1 vC;have el:l=l.take i++old::l.drop (i+1):=by
   have he:=(Zk.1 hi).2;rw [<-he,List.getElem_cons_drop,QS]
  have es:l.set i v=l.take i++v::l.drop (i+1):=by rw [List.set_eq_take_append_cons_drop,if_pos FX]
  have hX:(XC (l.take i)).length=i*7:=by rw [Mu,List.length_take]; congr 1; omega
  have e1:XC l=XC (l.take i)++old.row++XC (l.drop (i+1)):=by
   conv=>lhs; rw [el]
   rw [Ms];simp [XC]
  have e2:XC (l.set i v)=XC (l.take i)++v.row++XC (l.drop (i+1)):=by
   rw [es,Ms];simp [XC]
  have e3:cur=(XC (l.take i)++old.row++(XC (l.drop (i+1))++cur.toList.drop (l.length*7))).toArray:=by
   rw [<-Qd,<-e1,<-h7,QS]
  have hb:Zu w g 68 (XC (l.take i)++old.row++(XC (l.drop (i+1))++cur.toList.drop (l.length*7))).toArray:=by rw [<-e3]; exact h3
  have Dg:=Gf v.row (XC (l.take i)) old.row _ w rfl hb;rw [hX] at Dg;have BK:((XC (l.take i)++v.row++(XC (l.drop (i+1))++cur.toList.drop (l.length*7))).toArray).size=cur.size:=by
   conv=>rhs; rw [e3]
   simp [PQ]
  refine ⟨⟨by rw [Mu,Xb],.inr ⟨g,cp,_,rfl,h2,Dg,h4,h5,BK.trans h6,?_⟩⟩,fun j hj=>⟨?_,hb.frozen _⟩⟩
  ·rw [<-Qd,<-e2,List.toList_toArray,List.take_left' (by rw [Mu,Xb])]
  ·have hc:i*7+j < cur.size:=by
    rw [h6];have:l.length<=cp:=h4;have:(i+1)*7<=l.length*7:=Qe 7 FX;have:l.length*7<=cp*7:=Qe 7 h4;omega
   have hb':Zu w g 68 cur:=h3;rw [hb'.cell,Array.getElem?_eq_getElem hc];rfl
end
theorem eU (b m cap pR pO pV:Nat)(s:Zl)(c:Int->Int)(A T:Int)(old v:ZN)(w:Zc)(h:J3 w b m s cap c A T)(hR:Zu w pR 83 #[.pointer (some ⟨b,0,none⟩)])(hO:Zu w pO 68 (Ze old))(hV:Zu w pV 68 (Ze v))
  (ho:Yp old) (hv:Yp v) (Tv:XN old<=A) (hA:A<=T) (hA2:A - XN old<=T - old.bal) (kx:old.bal<=T) (hT1:T<=18446744073709551615) (hT:T - old.bal+v.bal<=18446744073709551615) (RG:1<=c old.st) (OO:c old.st<=4096) (hc2:0<=c v.st) (hc3:c v.st<=4096) :
  Mb Zb 219 #[.pointer (some ⟨pR,0,none⟩),.pointer (some ⟨pO,0,none⟩),.pointer (some ⟨pV,0,none⟩)] w fun e w'=>e= .returned (.tuple #[])/\
   J3 w' b m s cap (PU (PU c old.st (c old.st - 1)) v.st (PU c old.st (c old.st - 1) v.st+1)) (A - XN old+XN v) (T - old.bal+v.bal)/\ZA (fun i=>i=b\/i=m) w w':=by
 have Kj: ∀p t cs,Zu w p t cs->t≠146-> ¬(p=b\/p=m):=fun p t cs hp ht=>by
  rintro (rfl | rfl)
  ·exact Zu.ne_ hp h.1 ht rfl
  ·obtain ⟨es,clock,h9,_⟩:=h.2;unfold Zu at hp;rw [hp] at h9; cases h9
 have nR:=Kj pR _ _ hR Y5;have nO:=Kj pO _ _ hO Y5;have nV:=Kj pV _ _ hV Y5;have cR:=Xx hR 0;have HX:=Za (fG b m cap s c A T old w h ho Tv hA kx hT1 RG OO);have HRb:=Za hR;have HOb:=Za hO;have HVb:=Za hV;have HV:=Za hv;have l0:=Au hv.bal.1;have hq:0<=PU c old.st (c old.st - 1) v.st/\PU c old.st (c old.st - 1) v.st<=4096:=by
  unfold PU
  split <;> omega
 clear h hR hO hV ho hv Kj;refine Hs func219 rfl ?_;simp only [ntmps219,List.size_toArray,Yg,List.length_nil,Nat.reduceAdd,Nat.reduceSub,Array.replicate_succ,Array.replicate_zero,List.push_toArray,List.append_toArray,List.nil_append,Yf];go_wp2_with (refine YT rfl 68 _ rfl pO 0 rfl old _ HOb.o.range underlying68 rfl Ya ?_);refine HX.o.1.mono ?_;rintro e w1 ⟨rfl,wh,TU⟩;have HR1:=Za wh;have OV:=Za TU;have HV1:=Za (HVb.o.kept TU nV);have cR1:w1.cell? ⟨pR,0,none⟩=some (.pointer (some ⟨b,0,none⟩)):=(HRb.o.kept TU nR).cell 0;have HI:=Za (SK b m cap s _ _ _ v w1 wh HV.o Zf hA2 hT hq.1 hq.2);clear wh TU cR HX HVb HOb HRb;go_wp2_with (refine YT rfl 68 _ rfl pV 0 rfl v _ HV1.o.range underlying68 rfl Ya ?_);refine HI.o.1.mono ?_;rintro e w2 ⟨rfl,Pw,q9⟩;have HZ:=Za (And.intro Pw (OV.o.trans q9 (fun _ _ h=>h)));clear Pw q9;go_wp2;go_end0;exact ⟨rfl,HZ.o⟩
end
section
open Go Go.RowKit Go.Deep
theorem WU {a:Act}{dst:Option Tmp}{yt ty:ZL}{x y:YW}{pos:String}{after:Array Edge}{guard:Option (Nat × Bool)}{w:Zc}{p q:ZN}{r:Bool}(hx:a.eval x= .agg (Ze p))(hy:a.eval y= .agg (Ze q))(hr:decide (p=q)=r) :
  (XU a.eval { dst,op:= .binOp .eql 68 x y yt,type:=ty,pos,after,guard}).run Zb w= .ok (.value (.bool r)) w:=by
 simp only [XU,hx,hy,Yq,run_eqGuard_agg w .eql _ x y _ _ Tryz.eqGuardType68,ZY,run_eql_struct,Zg2 p q w,YX,hr]
theorem mj (b n cp:Nat)(a:Option Addr)(i:Int)(v:ZN)(w:Zc)(h1:w.cell? ⟨b,1,none⟩=some (.slice a n cp))(ho:i < 0\/n<=i) :
  Z3 175 #[.pointer (some ⟨b,0,none⟩),.int .i64 i,.agg (Ze v)] w (.int .i64 7):=by
 have HB:Zj (Zp w.heap.size w ((w.alloc (.cells #[.pointer (some ⟨b,0,none⟩)] 83)).alloc (.cells (Ze v) 68))):=Za (((Zn _ _).alloc (Zh _) _).alloc ZE _);have H:=Za (nP b n cp a i ((w.alloc (.cells #[.pointer (some ⟨b,0,none⟩)] 83)).alloc (.cells (Ze v) 68)) (ZJ _ (ZJ _ h1)) ho);clear h1 ho;go_enter_defers func175,ntmps175;go_wp2_with fail;refine H.o.mono ?_;rintro e w1 ⟨rfl,rfl⟩;go_wp2;exact ⟨_,results_tmp rfl _ _ _,rfl,HB.o⟩
theorem RX (b cap m n cp g i:Nat)(l:List ZN)(old v:ZN)(w:Zc)(h:J3 w b m (.slice (some ⟨g,0,none⟩) l.length cp) cap (Xj l) (Yh l) (Zw l))(ho:w.ownsRow 0 68 7 (.slice (some ⟨g,0,none⟩) l.length cp) l.length (XC l))(hi:l[i]?=some old) :i < l.length/\w.rangeAt g (i*7) old.row/\g≠b/\g≠m:=by
 refine ⟨(Zk.1 hi).1,?_,?_,?_⟩
 ·have:=N8 (w:=w) (b:=g) (off:=0) (l:=l) (fun j u hu=>by
   have:=ho.cells rfl j u hu;rwa [add_plain] at this) hi
  rwa [Nat.zero_add] at this
 ·rintro rfl
  rcases ho.2 with ⟨h1,_⟩ | ⟨g',Bg,cur,h1,_,h3,_⟩
  ·cases h1
  ·injection h1 with h1 _ _; injection h1 with h1; injection h1 with h1; subst h1;exact ZeP
 ·rintro rfl
  rcases ho.2 with ⟨h1,_⟩ | ⟨g',Bg,cur,h1,_,h3,_⟩
  ·cases h1
  ·injection h1 with h1 _ _; injection h1 with h1; injection h1 with h1; subst h1;obtain ⟨es,clock,h9,_⟩:=h.2; rw [h3] at h9; cases h9
theorem sB (b cap m cp g i:Nat)(l:List ZN)(v:ZN)(w:Zc)(h:J3 w b m (.slice (some ⟨g,0,none⟩) l.length cp) cap (Xj l) (Yh l) (Zw l))(ho:w.ownsRow 0 68 7 (.slice (some ⟨g,0,none⟩) l.length cp) l.length (XC l))(hi:l[i]?=some v) :
  Z3 175 #[.pointer (some ⟨b,0,none⟩),.int .i64 i,.agg (Ze v)] w (.int .i64 0):=by
 obtain ⟨FX,hr,-,-⟩:=RX b cap m l.length cp g i l v v w h ho hi;have HB:Zj (Zp w.heap.size w ((w.alloc (.cells #[.pointer (some ⟨b,0,none⟩)] 83)).alloc (.cells (Ze v) 68))):=Za (((Zn _ _).alloc (Zh _) _).alloc ZE _);have x1:=ZJ (.cells (Ze v) 68) (ZJ (.cells #[.pointer (some ⟨b,0,none⟩)] 83) h.cells.2.1);have HR:Zj (((w.alloc (.cells #[.pointer (some ⟨b,0,none⟩)] 83)).alloc (.cells (Ze v) 68)).rangeAt g (i*7) v.row):=Za (fun j u hu=>ZJ _ (ZJ _ (hr j u hu)));have H:=Za (bP b l.length cp i _ ((w.alloc (.cells #[.pointer (some ⟨b,0,none⟩)] 83)).alloc (.cells (Ze v) 68)) x1 FX);have HE:Zj (Zu ((w.alloc (.cells #[.pointer (some ⟨b,0,none⟩)] 83)).alloc (.cells (Ze v) 68)) (w.heap.size+1) 68 (Ze v)):=Za mK;have cR:((w.alloc (.cells #[.pointer (some ⟨b,0,none⟩)] 83)).alloc (.cells (Ze v) 68)).cell? ⟨w.heap.size,0,none⟩=some (.pointer (some ⟨b,0,none⟩)):=ZJ _ ((Zs w _ _).cell 0);have hi1: ¬(i:Int)< 0:=Zf;have Gi: ¬(l.length:Int)<=(i:Int):=Zf;have hi3:(i:Int)< (l.length:Int):=Zf;clear h ho hi hr;go_enter_defers func175,ntmps175;go_wp2_with fail;generalize (w.alloc (.cells #[.pointer (some ⟨b,0,none⟩)] 83)).alloc (.cells (Ze v) 68)=W at*;refine H.o.mono ?_;rintro e w1 ⟨rfl,rfl⟩;have Me:Zj (Zu (W.alloc (.cells (Ze v) 68)) (w.heap.size+1) 68 (Ze v)):=Za (HE.o.alloc _);have tG:Zj (Zu (W.alloc (.cells (Ze v) 68)) W.heap.size 68 (Ze v)):=Za (Zs _ _ _);go_wp2_with (first | (refine Na (.bool true) rfl (WU rfl rfl ZE) ?_) | (refine YT rfl 68 _ rfl g (i*7) rfl v _ HR.o underlying68 rfl Ya ?_) | (refine Up W.heap.size (Ze v) 68 (ZB W _) Ya (Yi v) ?_; rw [Zq]) | (refine YT rfl 68 _ rfl (w.heap.size+1) 0 rfl v _ Me.o.range underlying68 rfl Ya ?_) | (refine YT rfl 68 _ rfl W.heap.size 0 rfl v _ tG.o.range underlying68 rfl Ya ?_));exact ⟨_,results_tmp rfl _ _ _,rfl,HB.o.alloc HB.o.size _⟩
end
section
open Go Go.RowKit Go.Deep
theorem qp {l:List ZN}{i:Nat}{old:ZN}(h:l[i]?=some old)(v:ZN)(q:Int) :
  PU (PU (Xj l) old.st (Xj l old.st - 1)) v.st (PU (Xj l) old.st (Xj l old.st - 1) v.st+1) q=Xj (l.set i v) q:=by
 rw [IJ h];simp only [PU]
 by_cases e1:old.st=q
 ·subst e1
  by_cases e2:old.st=v.st
  ·rw [<-e2]; simp
  ·have e3: ¬v.st=old.st:=fun e=>e2 e.symm
   simp [e2,e3]
 ·have e4: ¬q=old.st:=fun e=>e1 e.symm
  by_cases e2:v.st=q
  ·subst e2;simp [e1,e4]
  ·have e3: ¬q=v.st:=fun e=>e2 e.symm
   simp [e1,e2,e3,e4]
theorem sA (b cap m cp g i:Nat)(l:List ZN)(old v:ZN)(w:Zc)(h:J3 w b m (.slice (some ⟨g,0,none⟩) l.length cp) cap (Xj l) (Yh l) (Zw l))(ho:w.ownsRow 0 68 7 (.slice (some ⟨g,0,none⟩) l.length cp) l.length (XC l))(hi:l[i]?=some old)
  (Kj:v≠old) (hl:l.length<=4096) (hf: ∀x ∈ l,Yp x) (hv:Yp v) (hT1:Zw l<=18446744073709551615) (hT:18446744073709551615 < Zw l - old.bal+v.bal) :
  Zv Zb 175 #[.pointer (some ⟨b,0,none⟩),.int .i64 i,.agg (Ze v)] w fun e w'=>e= .returned (.int .i64 10)/\ZA (fun i=>i=b\/i=m\/i=g) w w'/\J3 w' b m (.slice (some ⟨g,0,none⟩) l.length cp) cap (Xj l) (Yh l) (Zw l)/\w'.ownsRow 0 68 7 (.slice (some ⟨g,0,none⟩) l.length cp) l.length (XC l):=by
 obtain ⟨FX,hr,hgb,hgm⟩:=RX b cap m l.length cp g i l old v w h ho hi;have ⟨v0,v1⟩:=hv.bal;have hfo:=hf old (Zz hi);have ⟨o0,o1⟩:=hfo.bal;have hTo:old.bal<=Zw l/\XN old<=Yh l/\1<=Xj l old.st/\Yh l - XN old<=Zw l - old.bal:=Zmj
 obtain ⟨Tv,hA⟩:=Da hf;have OO:=Gg l old.st;have hc2:=Gg l v.st;have x1:=ZJ (.cells (Ze v) 68) (ZJ (.cells #[.pointer (some ⟨b,0,none⟩)] 83) h.cells.2.1);have HR:Zj (((w.alloc (.cells #[.pointer (some ⟨b,0,none⟩)] 83)).alloc (.cells (Ze v) 68)).rangeAt g (i*7) old.row):=Za (fun j u hu=>ZJ _ (ZJ _ (hr j u hu)));have H:=Za (bP b l.length cp i _ ((w.alloc (.cells #[.pointer (some ⟨b,0,none⟩)] 83)).alloc (.cells (Ze v) 68)) x1 FX);have HE:Zj (Zu ((w.alloc (.cells #[.pointer (some ⟨b,0,none⟩)] 83)).alloc (.cells (Ze v) 68)) (w.heap.size+1) 68 (Ze v)):=Za mK;have HP:Zj (Zu ((w.alloc (.cells #[.pointer (some ⟨b,0,none⟩)] 83)).alloc (.cells (Ze v) 68)) w.heap.size 83 #[.pointer (some ⟨b,0,none⟩)]):=Za (YK (Zs w _ _) _);have cR:=HP.o.cell 0;have HG:=Za ((h.alloc (.cells #[.pointer (some ⟨b,0,none⟩)] 83)).alloc (.cells (Ze v) 68));have HO:=Za ((ho.alloc (.cells #[.pointer (some ⟨b,0,none⟩)] 83)).alloc (.cells (Ze v) 68));have HK:Zj (ZA (fun i=>i=b\/i=m\/i=g) w ((w.alloc (.cells #[.pointer (some ⟨b,0,none⟩)] 83)).alloc (.cells (Ze v) 68))):=Za (((ZS _ w).alloc _).alloc _);have hgl:g < w.heap.size:=(ho.lt g rfl).2;have Pq:=h.1.lt;have tx:=h.2.lt;have BK:((w.alloc (.cells #[.pointer (some ⟨b,0,none⟩)] 83)).alloc (.cells (Ze v) 68)).heap.size=w.heap.size+2:=ZE;have hi1: ¬(i:Int)< 0:=Zf;have Gi: ¬(l.length:Int)<=(i:Int):=Zf;have hi3:(i:Int)< (l.length:Int):=Zf;have HI:=Za hi;have HNE:=Za Kj;have HFO:=Za hfo;have HV:=Za hv;obtain ⟨T,qX⟩:=ZR (Zw l);obtain ⟨A,hAe⟩:=ZR (Yh l);rw [qX,hAe] at hTo;rw [qX] at hT hT1 hA HG;rw [hAe] at Tv hA HG;have kx:0<=T:=Zf;have HTE:=Za qX;have HAE:=Za hAe;obtain ⟨n0,LG⟩:=ZR (w.heap.size);have jr:=Za LG;rw [LG] at HE HP cR hgl Pq tx BK;have hob:=hTo.1;have eh:=Za BK;clear BK;clear h ho hi hr hf Kj hfo hv qX hAe;go_enter_defers func175,ntmps175;go_wp2_with fail;generalize ((w.alloc (.cells #[.pointer (some ⟨b,0,none⟩)] 83)).alloc (.cells (Ze v) 68))=W at*;refine H.o.mono ?_;rintro e w1 ⟨rfl,rfl⟩;have Me:Zj (Zu (W.alloc (.cells (Ze old) 68)) (n0+1) 68 (Ze v)):=Za (HE.o.alloc _);have tG:Zj (Zu (W.alloc (.cells (Ze old) 68)) W.heap.size 68 (Ze old)):=Za (Zs _ _ _);go_wp2_with (first | (refine Na (.bool false) rfl (WU rfl rfl (by simp [HNE.o])) ?_) | (refine YT rfl 68 _ rfl g (i*7) rfl old _ HR.o underlying68 rfl Ya ?_) | (refine Up W.heap.size (Ze old) 68 (ZB W _) Ya (Yi old) ?_; rw [Zq]) | (refine YT rfl 68 _ rfl (n0+1) 0 rfl v _ Me.o.range underlying68 rfl Ya ?_) | (refine YT rfl 68 _ rfl W.heap.size 0 rfl old _ tG.o.range underlying68 rfl Ya ?_));have HP2:Zj (Zu (W.alloc (.cells (Ze old) 68)) n0 83 #[.pointer (some ⟨b,0,none⟩)]):=Za (HP.o.alloc _);have HG2:=Za (HG.o.alloc (.cells (Ze old) 68));have Rh:=Za (HO.o.alloc (.cells (Ze old) 68));have Sn:=Za (HK.o.alloc (.cells (Ze old) 68));have ZhI:(W.alloc (.cells (Ze old) 68)).heap.size=n0+3:=by have:=eh.o; simp; omega
 have S1:(W.alloc (.cells (Ze old) 68)).cell? ⟨n0,0,none⟩=some (.pointer (some ⟨b,0,none⟩))/\(W.alloc (.cells (Ze old) 68)).cell? ⟨b,4,none⟩=some (.int .u64 T)/\(W.alloc (.cells (Ze old) 68)).cell? ⟨n0+2,0,none⟩=some (.int .u64 old.bal)/\(W.alloc (.cells (Ze old) 68)).cell? ⟨n0+1,0,none⟩=some (.int .u64 v.bal):=
  ⟨HP2.o.cell 0,HG2.o.cells.2.2.2.2,by rw [<-eh.o]; exact tG.o.cell 0,Me.o.cell 0⟩
 have Ri:=Za S1;rw [eh.o] at tG;simp only [eh.o];clear HE HP HG HO HK cR x1 H HR S1;generalize W.alloc (.cells (Ze old) 68)=W2 at*;refine L5 (fun _=>True) 15 15 [] trivial ?_;refine Yo ?_;refine ZlT ?_;refine JH ?_;refine td ?_;refine KY 83 _ (.pointer (some ⟨b,0,none⟩)) (fun w h=>h.1) ?_;refine X7 ?_;refine BZ ?_;refine KY 23 _ (.int .u64 T) (fun w h=>h.2.1) ?_;refine X7 ?_;refine U4 ?_;refine KY 23 _ (.int .u64 old.bal) (fun w h=>h.2.2.1) ?_;refine X7 ?_;refine BZ ?_;refine KY 23 _ (.int .u64 v.bal) (fun w h=>h.2.2.2) ?_;refine X7 ?_;refine Yo ?_;refine JC (i:=9) ?_;refine Yv rfl rfl (Qu 121 23 (.tmp 33) (.tmp 35) _ _ (.int .u64 (T - old.bal)) (.int .u64 v.bal) rfl rfl rfl underlying121 EI rfl rfl rfl ⟨⟨ZJ _ Ri.o.1,ZJ _ Ri.o.2.1,ZJ _ Ri.o.2.2.1,ZJ _ Ri.o.2.2.2⟩,?_⟩);refine JC (i:=10) ?_;refine Ee ?_;refine JA #[.slice (some ⟨W2.drew.heap.size,0,none⟩) 2 2] call101 ((Wn W2.drew.heap.size (T - old.bal) v.bal _ (Zs W2.drew _ _) Zf Zf v0 v1 Zf).mono ?_);rintro e w3 ⟨rfl,hw3⟩;have S3:w3.cell? ⟨n0,0,none⟩=some (.pointer (some ⟨b,0,none⟩))/\w3.cell? ⟨b,4,none⟩=some (.int .u64 T)/\w3.cell? ⟨n0+2,0,none⟩=some (.int .u64 old.bal)/\w3.cell? ⟨n0+1,0,none⟩=some (.int .u64 v.bal):=Zm6
 refine ⟨_,rfl,S3,?_⟩;have HZ:Zj (ZA (fun i=>i=b\/i=m\/i=g) w w3/\J3 w3 b m (.slice (some ⟨g,0,none⟩) l.length cp) cap (Xj l) A T/\w3.ownsRow 0 68 7 (.slice (some ⟨g,0,none⟩) l.length cp) l.length (XC l)):=Za (hw3▸⟨Sn.o.drew.alloc _,(HG2.o.drewN 1).alloc _,X5 (w:=W2.drew) Rh.o _⟩);clear hw3;refine Ee ?_;refine ZlU ?_;refine JH ?_;refine Hg ?_;refine Dw ?_;refine Yo ?_;refine GD ?_;refine ⟨by kernel_rfl,?_⟩;refine LA ?_;clear S3 Ri;go_wp2;refine U1 ?_;go_wp2;refine ⟨_,results_tmp rfl _ _ _,rfl,?_⟩;rw [HTE.o,HAE.o];exact HZ.o
theorem Zdl (b cap m cp g i:Nat)(l:List ZN)(old v:ZN)(w:Zc)(h:J3 w b m (.slice (some ⟨g,0,none⟩) l.length cp) cap (Xj l) (Yh l) (Zw l))(ho:w.ownsRow 0 68 7 (.slice (some ⟨g,0,none⟩) l.length cp) l.length (XC l))(hi:l[i]?=some old)
  (Kj:v≠old) (hl:l.length<=4096) (hf: ∀x ∈ l,Yp x) (hv:Yp v) (hT1:Zw l<=18446744073709551615) (hT:Zw l - old.bal+v.bal<=18446744073709551615) :
  Zv Zb 175 #[.pointer (some ⟨b,0,none⟩),.int .i64 i,.agg (Ze v)] w fun e w'=>e= .returned (.int .i64 0)/\ZA (fun i=>i=b\/i=m\/i=g) w w'/\J3 w' b m (.slice (some ⟨g,0,none⟩) l.length cp) cap (Xj (l.set i v)) (Yh (l.set i v)) (Zw (l.set i v))/\w'.ownsRow 0 68 7 (.slice (some ⟨g,0,none⟩) l.length cp) l.length (XC (l.set i v)):=by
 obtain ⟨FX,hr,hgb,hgm⟩:=RX b cap m l.length cp g i l old v w h ho hi;have ⟨v0,v1⟩:=hv.bal;have hfo:=hf old (Zz hi);have ⟨o0,o1⟩:=hfo.bal;have hTo:old.bal<=Zw l/\XN old<=Yh l/\1<=Xj l old.st/\Yh l - XN old<=Zw l - old.bal:=Zmj
 obtain ⟨Tv,hA⟩:=Da hf;have OO:=Gg l old.st;have hc2:=Gg l v.st;have x1:=ZJ (.cells (Ze v) 68) (ZJ (.cells #[.pointer (some ⟨b,0,none⟩)] 83) h.cells.2.1);have HR:Zj (((w.alloc (.cells #[.pointer (some ⟨b,0,none⟩)] 83)).alloc (.cells (Ze v) 68)).rangeAt g (i*7) old.row):=Za (fun j u hu=>ZJ _ (ZJ _ (hr j u hu)));have H:=Za (bP b l.length cp i _ ((w.alloc (.cells #[.pointer (some ⟨b,0,none⟩)] 83)).alloc (.cells (Ze v) 68)) x1 FX);have HE:Zj (Zu ((w.alloc (.cells #[.pointer (some ⟨b,0,none⟩)] 83)).alloc (.cells (Ze v) 68)) (w.heap.size+1) 68 (Ze v)):=Za mK;have HP:Zj (Zu ((w.alloc (.cells #[.pointer (some ⟨b,0,none⟩)] 83)).alloc (.cells (Ze v) 68)) w.heap.size 83 #[.pointer (some ⟨b,0,none⟩)]):=Za (YK (Zs w _ _) _);have cR:=HP.o.cell 0;have HG:=Za ((h.alloc (.cells #[.pointer (some ⟨b,0,none⟩)] 83)).alloc (.cells (Ze v) 68));have HO:=Za ((ho.alloc (.cells #[.pointer (some ⟨b,0,none⟩)] 83)).alloc (.cells (Ze v) 68));have HK:Zj (ZA (fun i=>i=b\/i=m\/i=g) w ((w.alloc (.cells #[.pointer (some ⟨b,0,none⟩)] 83)).alloc (.cells (Ze v) 68))):=Za (((ZS _ w).alloc _).alloc _);have hgl:g < w.heap.size:=(ho.lt g rfl).2;have Pq:=h.1.lt;have tx:=h.2.lt;have BK:((w.alloc (.cells #[.pointer (some ⟨b,0,none⟩)] 83)).alloc (.cells (Ze v) 68)).heap.size=w.heap.size+2:=ZE;have hi1: ¬(i:Int)< 0:=Zf;have Gi: ¬(l.length:Int)<=(i:Int):=Zf;have hi3:(i:Int)< (l.length:Int):=Zf;have HI:=Za hi;have HNE:=Za Kj;have HFO:=Za hfo;have HV:=Za hv;obtain ⟨T,qX⟩:=ZR (Zw l);obtain ⟨A,hAe⟩:=ZR (Yh l);rw [qX,hAe] at hTo;rw [qX] at hT hT1 hA HG;rw [hAe] at Tv hA HG;have kx:0<=T:=Zf;have HTE:=Za qX;have HAE:=Za hAe;obtain ⟨n0,LG⟩:=ZR (w.heap.size);have jr:=Za LG;rw [LG] at HE HP cR hgl Pq tx BK;have hob:=hTo.1;have eh:=Za BK;clear BK;clear h ho hi hr hf Kj hfo hv qX hAe;go_enter_defers func175,ntmps175;go_wp2_with fail;generalize ((w.alloc (.cells #[.pointer (some ⟨b,0,none⟩)] 83)).alloc (.cells (Ze v) 68))=W at*;refine H.o.mono ?_;rintro e w1 ⟨rfl,rfl⟩;have Me:Zj (Zu (W.alloc (.cells (Ze old) 68)) (n0+1) 68 (Ze v)):=Za (HE.o.alloc _);have tG:Zj (Zu (W.alloc (.cells (Ze old) 68)) W.heap.size 68 (Ze old)):=Za (Zs _ _ _);go_wp2_with (first | (refine Na (.bool false) rfl (WU rfl rfl (by simp [HNE.o])) ?_) | (refine YT rfl 68 _ rfl g (i*7) rfl old _ HR.o underlying68 rfl Ya ?_) | (refine Up W.heap.size (Ze old) 68 (ZB W _) Ya (Yi old) ?_; rw [Zq]) | (refine YT rfl 68 _ rfl (n0+1) 0 rfl v _ Me.o.range underlying68 rfl Ya ?_) | (refine YT rfl 68 _ rfl W.heap.size 0 rfl old _ tG.o.range underlying68 rfl Ya ?_));have HP2:Zj (Zu (W.alloc (.cells (Ze old) 68)) n0 83 #[.pointer (some ⟨b,0,none⟩)]):=Za (HP.o.alloc _);have HG2:=Za (HG.o.alloc (.cells (Ze old) 68));have Rh:=Za (HO.o.alloc (.cells (Ze old) 68));have Sn:=Za (HK.o.alloc (.cells (Ze old) 68));have ZhI:(W.alloc (.cells (Ze old) 68)).heap.size=n0+3:=by have:=eh.o; simp; omega
 have S1:(W.alloc (.cells (Ze old) 68)).cell? ⟨n0,0,none⟩=some (.pointer (some ⟨b,0,none⟩))/\(W.alloc (.cells (Ze old) 68)).cell? ⟨b,4,none⟩=some (.int .u64 T)/\(W.alloc (.cells (Ze old) 68)).cell? ⟨n0+2,0,none⟩=some (.int .u64 old.bal)/\(W.alloc (.cells (Ze old) 68)).cell? ⟨n0+1,0,none⟩=some (.int .u64 v.bal):=
  ⟨HP2.o.cell 0,HG2.o.cells.2.2.2.2,by rw [<-eh.o]; exact tG.o.cell 0,Me.o.cell 0⟩
 have Ri:=Za S1;rw [eh.o] at tG;simp only [eh.o];clear HE HP HG HO HK cR x1 H HR S1;generalize W.alloc (.cells (Ze old) 68)=W2 at*;refine L5 (fun _=>True) 15 15 [] trivial ?_;refine Yo ?_;refine ZlT ?_;refine JH ?_;refine td ?_;refine KY 83 _ (.pointer (some ⟨b,0,none⟩)) (fun w h=>h.1) ?_;refine X7 ?_;refine BZ ?_;refine KY 23 _ (.int .u64 T) (fun w h=>h.2.1) ?_;refine X7 ?_;refine U4 ?_;refine KY 23 _ (.int .u64 old.bal) (fun w h=>h.2.2.1) ?_;refine X7 ?_;refine BZ ?_;refine KY 23 _ (.int .u64 v.bal) (fun w h=>h.2.2.2) ?_;refine X7 ?_;refine Yo ?_;refine JC (i:=9) ?_;refine Yv rfl rfl (Qu 121 23 (.tmp 33) (.tmp 35) _ _ (.int .u64 (T - old.bal)) (.int .u64 v.bal) rfl rfl rfl underlying121 EI rfl rfl rfl ⟨⟨ZJ _ Ri.o.1,ZJ _ Ri.o.2.1,ZJ _ Ri.o.2.2.1,ZJ _ Ri.o.2.2.2⟩,?_⟩);refine JC (i:=10) ?_;refine Ee ?_;refine JA #[.slice (some ⟨W2.drew.heap.size,0,none⟩) 2 2] call101 ((Wo W2.drew.heap.size (T - old.bal) v.bal _ (Zs W2.drew _ _) Zf v0 hT).mono ?_);rintro e w3 ⟨rfl,hw3⟩;have S3:w3.cell? ⟨n0,0,none⟩=some (.pointer (some ⟨b,0,none⟩))/\w3.cell? ⟨b,4,none⟩=some (.int .u64 T)/\w3.cell? ⟨n0+2,0,none⟩=some (.int .u64 old.bal)/\w3.cell? ⟨n0+1,0,none⟩=some (.int .u64 v.bal):=Zm6
 refine ⟨_,rfl,S3,?_⟩;have HZ:Zj (ZA (fun i=>i=b\/i=m\/i=g) w w3/\J3 w3 b m (.slice (some ⟨g,0,none⟩) l.length cp) cap (Xj l) A T/\w3.ownsRow 0 68 7 (.slice (some ⟨g,0,none⟩) l.length cp) l.length (XC l)/\Zu w3 n0 83 #[.pointer (some ⟨b,0,none⟩)]/\Zu w3 (n0+1) 68 (Ze v)/\Zu w3 (n0+2) 68 (Ze old)):=
  Za (hw3▸⟨Sn.o.drew.alloc _,(HG2.o.drewN 1).alloc _,X5 (w:=W2.drew) Rh.o _,YK (Km HP2.o) _,YK (Km Me.o) _,YK (Km tG.o) _⟩)
 clear Sn HG2 Rh HP2 Me tG;clear hw3;refine Ee ?_;refine ZlU ?_;refine JH ?_;refine Hg ?_;refine Dw ?_;refine Yo ?_;refine GD ?_;refine ⟨by kernel_rfl,?_⟩;refine LA ?_;clear S3 Ri;have bR: ∀(fn:Fn) (first cap:Array Zl) (w:Zc),(Instr.makeFunc fn first cap).run Zb w= .ok (.func fn first cap) w:=fun _ _ _ _=>rfl
 go_wp2;refine U1 ?_;go_wp2;clear bR;have d0:=HZ.o.2.2.2.1.cell 0;have d1:=HZ.o.2.1.cells.2.1;refine BU 7 ?_;refine BY ?_;iterate 5 (go_big_quiet_step (fail))
 refine Vv 68 (.tmp 5) (n0+1) 0 v _ rfl rfl rfl (fun w h=>by obtain ⟨n,rfl⟩:=h; exact (XD HZ.o.2.2.2.2.1 n).range) underlying68 rfl Ya ?_;refine X7 ?_
 repeat (go_big_quiet_step (fail))
 refine Yo ?_;intro _ JG;obtain ⟨n1,Xk⟩:=JG;subst Xk;obtain ⟨hos,hth⟩:=PH (w:=w3.drewN n1) HZ.o.2.2.1 HI.o v;have hos:=Za hos;refine wpList_store_mid rfl 68 _ _ rfl g (i*7) (Ze v) rfl rfl hth Ya (Yi v) ?_;have hk5:ZA (fun i=>i=g) (w3.drewN n1) ((w3.drewN n1).setCells g (i*7) (Ze v).toList):=ZA.setCells _ _ _ (ZS _ _) (.inl rfl);have H5:Zj (J3 ((w3.drewN n1).setCells g (i*7) (Ze v).toList) b m (.slice (some ⟨g,0,none⟩) l.length cp) cap (Xj l) A T/\((w3.drewN n1).setCells g (i*7) (Ze v).toList).ownsRow 0 68 7 (.slice (some ⟨g,0,none⟩) l.length cp) l.length (XC (l.set i v))/\ZA (fun i=>i=b\/i=m\/i=g) w ((w3.drewN n1).setCells g (i*7) (Ze v).toList)/\
   Zu ((w3.drewN n1).setCells g (i*7) (Ze v).toList) n0 83 #[.pointer (some ⟨b,0,none⟩)]/\Zu ((w3.drewN n1).setCells g (i*7) (Ze v).toList) (n0+1) 68 (Ze v)/\Zu ((w3.drewN n1).setCells g (i*7) (Ze v).toList) (n0+2) 68 (Ze old)):=
  Za ⟨(HZ.o.2.1.drewN n1).same (hk5.block b (HZ.o.2.1.1.lt) (fun e=>hgb e.symm)) (hk5.block m (HZ.o.2.1.2.lt) (fun e=>hgm e.symm)),hos.o,(HZ.o.1.drewN n1).trans hk5 (fun _ _ e=> .inr (.inr e)),
   (XD HZ.o.2.2.2.1 n1).kept hk5 Zf,(XD HZ.o.2.2.2.2.1 n1).kept hk5 Zf,(XD HZ.o.2.2.2.2.2 n1).kept hk5 Zf⟩
 clear hk5 hth d0 d1;generalize (w3.drewN n1).setCells g (i*7) (Ze v).toList=W5 at*;have HC:=Za (eU b m cap n0 (n0+2) (n0+1) _ (Xj l) A T old v W5 H5.o.1 H5.o.2.2.2.1 H5.o.2.2.2.2.2 H5.o.2.2.2.2.1 HFO.o HV.o hTo.2.1 hA hTo.2.2.2 hob hT1 hT hTo.2.2.1 Zf hc2.1 Zf);have HOS:=Za H5.o.2.1;go_wp2;refine leaves_cons (f:=219) (args:= #[.pointer (some ⟨n0,0,none⟩),.pointer (some ⟨n0+2,0,none⟩),.pointer (some ⟨n0+1,0,none⟩)]) ZE (by simp [go_sem]) ?_;refine (HC.o.2 _).mono ?_;rintro e u' w6 ⟨rfl,rfl,hr6,hk6⟩;refine ⟨_,results_tmp rfl _ _ _,rfl,H5.o.2.2.1.trans hk6 (fun _ _ h=>h.elim .inl (fun h=> .inr (.inl h))),?_,?_⟩
 ·have e1:Yh (l.set i v)=A - XN old+XN v:=by rw [Hn HI.o,HAE.o]
  have e2:Zw (l.set i v)=T - old.bal+v.bal:=by rw [J4 HI.o,HTE.o]
  rw [e1,e2];exact ⟨hr6.1,hr6.2.congr (fun q=>qp HI.o v q)⟩
 ·exact Va H5.o.2.1 (fun j hj=>by
   injection hj with hj;subst hj;exact hk6.block _ ((H5.o.2.1.lt _ rfl).2) (by rintro (h | h); exact hgb h; exact hgm h))
theorem xY (b cap:Nat)(S:Nat->Prop)(i:Int)(l:List ZN)(v:ZN)(w:Zc)(h:OY w b S cap l)(hv:Yp v) :
  Zv Zb 175 #[.pointer (some ⟨b,0,none⟩),.int .i64 i,.agg (Ze v)] w fun e w'=>
   ((i < 0\/l.length<=i)/\e= .returned (.int .i64 7)/\OY w' b S cap l/\ZA S w w')\/
   ∃(k:Nat) (old:ZN),i=k/\l[k]?=some old/\((Zw l - old.bal+v.bal<=18446744073709551615/\e= .returned (.int .i64 0)/\OY w' b S cap (l.set k v)/\ZA S w w')\/(18446744073709551615 < Zw l - old.bal+v.bal/\e= .returned (.int .i64 10)/\OY w' b S cap l/\ZA S w w')):=by
 have Zln:=h;obtain ⟨m,s,h1,h2,h3,h4,h5,h6,h7,hS⟩:=h;obtain ⟨a,cp,rfl,_,_⟩:=UT h2
 by_cases ho:i < 0\/(l.length:Int)<=i
 ·exact (mj b l.length cp a i v w h1.cells.2.1 ho).mono fun e w' ⟨he,hb⟩=> .inl ⟨ho,he,Zln.below hb,Y9 hb⟩
 ·obtain ⟨k,rfl⟩ : ∃k:Nat,i=k:=⟨i.toNat,by omega⟩;have hk:k < l.length:=Zf;obtain ⟨old,hold⟩ : ∃old,l[k]?=some old:=⟨_,Zg hk⟩;obtain ⟨g,rfl⟩ : ∃g,a=some ⟨g,0,none⟩:=by
   rcases h2.2 with ⟨_,h9⟩ | ⟨g,_,_,h9,_⟩
   ·omega
   ·injection h9 with h9; exact ⟨g,h9⟩
  have Oj: ∀i,(Ys (some ⟨g,0,none⟩) l.length cp).ownBlock=some i ↔ i=g:=fun i=>by simp [YZ,eq_comm]
  have Zew: ∀w',ZA (fun i=>i=b\/i=m\/i=g) w w'->ZA S w w':=fun w' hk=>hk.more (fun i _ hi=>(hS i).2 (hi.imp id (Or.imp id (fun e=>(Oj i).2 e))))
  by_cases he:v=old
  ·subst he;have Zcn:l.set k v=l:=by
    refine List.ext_getElem? fun j=>?_
    rw [List.getElem?_set]
    split
    ·rename_i hj; subst hj; rw [hold]; try simp [hk]
    ·rfl
   exact (sB b cap m cp g k l v w h1 h2 hold).mono fun e w' ⟨he,hb⟩=> .inr ⟨k,v,rfl,hold,.inl ⟨by omega,he,by rw [Zcn]; exact Zln.below hb,Y9 hb⟩⟩
  ·by_cases ht:Zw l - old.bal+v.bal<=18446744073709551615
   ·refine (Zdl b cap m cp g k l old v w h1 h2 hold he Zf h7 hv h6 ht).mono fun e w' ⟨he,fX,r1,r2⟩=> .inr ⟨k,old,rfl,hold,.inl ⟨ht,he,⟨m,_,r1,by simpa using r2,h3,h4,by simpa using h5,?_,?_,hS⟩,Zew w' fX⟩⟩
    ·rw [J4 hold]; exact ht
    ·intro x hx
     rcases List.mem_or_eq_of_mem_set hx with hx | rfl
     ·exact h7 x hx
     ·exact hv
   ·exact (sA b cap m cp g k l old v w h1 h2 hold he Zf h7 hv h6 Zf).mono fun e w' ⟨he,fX,r1,r2⟩=> .inr ⟨k,old,rfl,hold,.inr ⟨by omega,he,⟨m,_,r1,r2,h3,h4,h5,h6,h7,hS⟩,Zew w' fX⟩⟩
end
section
open Go Go.RowKit Go.Deep
theorem Di {w:Zc}{base:Nat}{e:ZL}{k:Nat}{v:Zl}{n:Nat}{xs:List Zl}(h:w.ownsRow base e k v n xs){B:Nat}(hB:B<=base) :w.ownsRow B e k v n xs:=yP
theorem Zcu {w w':Zc}{S:Nat->Prop}{a:Option Addr}{l:List ZN}(h:FL w S a l)(hb:Zp w.heap.size w w') :0 < l.length-> ∃ad,a=some ad/\ ∀j u,(XC l)[j]?=some u->w'.cell? (ad.add j)=some u:=fun h0=>(h.below hb).flat h0
theorem Np (S:Nat->Prop)(a:Option Addr)(cp:Nat)(l:List ZN)(w:Zc)(h:FL w S a l)(hl:l.length<=4096) :
  Zv Zb 25 #[.slice a l.length cp] w fun e w'=> ∃v,e= .returned v/\w'.ownsRow w.heap.size 68 7 v l.length (XC l)/\Zp w.heap.size w w':=by
 have HL:=Za h
 by_cases hn:a=none
 ·subst hn;have h0:l.length=0:=by
   rcases Nat.eq_zero_or_pos l.length with h0 | h0
   ·exact h0
   ·obtain ⟨b,off,h1,_⟩:=h h0
    cases h1
  obtain rfl:=ZO h0;clear h HL;have heq:=fun (w:Zc) (a:Option Addr) (n c:Nat)=>Uq (P:=Zb) w 22 68 a n c 0 0 underlying22
  go_enter func25,ntmps25;exact y8
 ·obtain ⟨ad,rfl⟩:=Option.ne_none_iff_exists'.1 hn;obtain ⟨i,hi,hz,hs7,Ns⟩:=dq;have hlen:=Mu l;have HLEN:=Za hlen;clear h hn hlen;have heq:=fun (w:Zc) (a:Option Addr) (n c:Nat)=>Uq (P:=Zb) w 22 68 a n c 0 0 underlying22
  go_enter func25,ntmps25;go_wp2_with (at_builtin; refine YR _ rfl (.tmp 5) (.tmp 6) 22 rfl w.heap.size 68 i _ 7 56 underlying22 hi hz hs7 Ns (Sy _) Zf (.slice (some ⟨w.heap.size,0,none⟩) 0 0) 0 [] rfl (Oo (Zs w _ _) (Zh _)) (some ad) l.length cp (XC l) rfl (by rw [HLEN.o]) (fun h0=>Zcu HL.o ((Zn _ _).alloc (Zh _) _) h0) u4 Vx Zf ZE ?_; intro v w1 ho hg hv);have hZ:w1.ownsRow w.heap.size 68 7 v l.length (XC l)/\Zp w.heap.size w w1:=by
   refine ⟨by simpa using ho,?_⟩;exact Db ((Zn _ _).alloc (Zh _) _) (g:=w.heap.size) hg ZE (Zh _)
  have HZ:=Za hZ;clear ho hg hv hZ hi hz hs7 Ns;go_wp2;go_ret;exact ⟨_,rfl,HZ.o⟩
theorem Zbc (b cap:Nat)(S:Nat->Prop)(l:List ZN)(w:Zc)(h:OY w b S cap l) :
  Zv Zb 43 #[.pointer (some ⟨b,0,none⟩)] w fun e w'=> ∃v,e= .returned v/\w'.ownsRow w.heap.size 68 7 v l.length (XC l)/\Zp w.heap.size w w':=by
 obtain ⟨m,a,cp,x0,x1,x2,x3,x4,q1,q2,_,hL⟩:=h.cells;have hl:=h.fits;have H:=Za (Np _ a cp l w hL Zf);clear h hL hl x0 x2 x3 x4;go_enter func43,ntmps43;go_wp2_with fail;refine H.o.mono ?_;rintro e w1 ⟨v,rfl,ho,hb⟩;have HZ:=Za (And.intro ho hb);clear ho hb H;go_wp2_with fail;go_ret;exact ⟨_,rfl,HZ.o⟩
theorem nK (b cap:Nat)(S:Nat->Prop)(i:Int)(l:List ZN)(w:Zc)(h:OY w b S cap l) :
  Zv Zb 126 #[.pointer (some ⟨b,0,none⟩),.int .i64 i] w fun e w'=>Zp w.heap.size w w'/\(((i < 0\/l.length<=i)/\e= .returned (.tuple #[.agg (Ze ZU),.bool false]))\/ ∃(k:Nat) (v:ZN),i=k/\l[k]?=some v/\e= .returned (.tuple #[.agg (Ze v),.bool true])):=by
 obtain ⟨m,a,cp,x0,x1,x2,x3,x4,q1,q2,_,hL⟩:=h.cells
 by_cases ho:i < 0\/(l.length:Int)<=i
 ·refine (Zg8 (some ⟨b,0,none⟩) i w (fun w' hb=>?_)).mono fun e w' ⟨he,hb⟩=>⟨hb,.inl ⟨ho,he⟩⟩
  exact nP b l.length cp a i w' ((hb.cell (p:=⟨b,1,none⟩) (GW x1)).trans x1) ho
 ·obtain ⟨k,rfl⟩ : ∃k:Nat,i=k:=⟨i.toNat,by omega⟩;have hk:k < l.length:=Zf;obtain ⟨v,hv⟩ : ∃v,l[k]?=some v:=⟨_,Zg hk⟩;obtain ⟨g,off,rfl,hr⟩:=hL.at hv;exact (Zg7 b l.length cp k g off v w x1 hk hr).mono fun e w' ⟨he,hb⟩=>⟨hb,.inr ⟨k,v,rfl,hv,he⟩⟩
end
section
open Go Go.ChangeShapes Go.WideShapes Go.RowKit Go.Deep
def Kc (p:Int × Int) :List Zl:= [.int .i64 p.1,.int .i64 p.2]
def YJ (p:Int × Int) :Array Zl:=(Kc p).toArray
theorem UM (p:Int × Int) :(YJ p).all (·.oneCell')=true:=by
 refine Array.all_eq_true_iff_forall_mem.2 (fun u hu=>?_);simp only [YJ,Kc,List.mem_toArray,ZX,List.not_mem_nil,or_false] at hu
 rcases hu with rfl | rfl <;> rfl
theorem MD:(Tryz.prog.info? 116).map (·.size)=some 2:=ZC
theorem PA:(Tryz.prog.info? 240).map (·.size)=some 2:=ZC
theorem ZlF: ∃i,Tryz.prog.info? 3=some i:=by
 have h:(Tryz.prog.info? 3).isSome=true:=ZC;exact Option.isSome_iff_exists.1 h
theorem ZbK (x y:Int × Int)(w:Zc) :(Bd 10000 240 (.agg (YJ x)) (.agg (YJ y))).run Zb w= .ok (decide (x=y)) w:=by
 obtain ⟨i,hi⟩:=ZlF;rw [run_equalIn_array w 9999 (YJ x) (YJ y) underlying240 hi,show Tryz.prog.cellsOf 3=1 by kernel_rfl];have hI:=underlying3;have p0:(part 3 (YJ x) 0).run Zb w= .ok (.int .i64 x.1) w:=Qr w (Gn hI) rfl;have p1:(part 3 (YJ x) 1).run Zb w= .ok (.int .i64 x.2) w:=Qr w (Gn hI) rfl;have q0:(part 3 (YJ y) 0).run Zb w= .ok (.int .i64 y.1) w:=Qr w (Gn hI) rfl;have q1:(part 3 (YJ y) 1).run Zb w= .ok (.int .i64 y.2) w:=Qr w (Gn hI) rfl;have e0:(Bd 9999 3 (.int .i64 x.1) (.int .i64 y.1)).run Zb w=_:=run_equalIn_int (P:=Zb) w 9998 _ .i64 .i64 x.1 y.1 hI;have e1:(Bd 9999 3 (.int .i64 x.2) (.int .i64 y.2)).run Zb w=_:=run_equalIn_int (P:=Zb) w 9998 _ .i64 .i64 x.2 y.2 hI;rw [show List.range 2=[0,1] from rfl];simp only [Op.eqItems,Yq,JL,Nat.one_mul,p0,q0,e0,ZY]
 by_cases h0:x.1=y.1
 ·have hb:(x.1==y.1)=true:=by simpa using h0
  simp [hb,p1,q1,e1]
  by_cases h1:x.2=y.2 <;> simp [h0,h1,Prod.ext_iff]
 ·simp [h0,Prod.ext_iff]
theorem fJ {a:Act}{dst:Option Tmp}{yt ty:ZL}{x y:YW}{pos:String}{after:Array Edge}{guard:Option (Nat × Bool)}{w:Zc}{p q:Int × Int}{r:Bool}(hx:a.eval x= .agg (YJ p))(hy:a.eval y= .agg (YJ q))(hr:decide (p=q)=r) :
  (XU a.eval { dst,op:= .binOp .eql 240 x y yt,type:=ty,pos,after,guard}).run Zb w= .ok (.value (.bool r)) w:=by
 simp only [XU,hx,hy,Yq,run_eqGuard_agg w .eql _ x y _ _ (show Tryz.prog.eqGuardType Tryz.prog.depth 240=false by kernel_rfl),ZY,run_eql_struct,ZbK p q w,YX,hr]
def Prs (w:Zc)(S:Nat->Prop)(a:Option Addr)(q:List (Int × Int)) :Prop:=
 0 < q.length-> ∃b off,a=some ⟨b,off,none⟩/\ ¬S b/\b < w.heap.size/\ ∀i p,q[i]?=some p->w.rangeAt b (off+i*2) (Kc p)
section
variable {w w':Zc} {S T:Nat->Prop} {a:Option Addr} {q:List (Int × Int)}
theorem Prs.same (h:Prs w S a q)(hs:w.heap.size<=w'.heap.size)(hb: ∀b,b < w.heap.size-> ¬S b->w'.heap[b]?=w.heap[b]?) :Prs w' S a q:=fun h0=>by
 obtain ⟨b,off,h1,h2,h3,h4⟩:=h h0;exact ⟨b,off,h1,h2,by omega,fun i v hi=>World.rangeAt.same (h4 i v hi) (hb b h3 h2)⟩
theorem Prs.below (h:Prs w S a q)(hb:Zp w.heap.size w w') :Prs w' S a q:=h.same hb.size fun b XJ _=>hb.block b XJ
theorem Prs.at (h:Prs w S a q){i:Nat}{p:Int × Int}(hi:q[i]?=some p) : ∃b off,a=some ⟨b,off,none⟩/\w.rangeAt b (off+i*2) (Kc p):=by
 obtain ⟨b,off,h1,_,_,h4⟩:=h mL;exact ⟨b,off,h1,h4 i p hi⟩
end
section
variable {P:YV} {ops:Array Oper} {rest:List Oper} {op:Oper} {a:Act} {w:Zc} {Q:Exit->Act->Zc->Prop}
theorem il {C:Zc->Prop}{Qa:Act->Prop}(ty:ZL)(x:YW)(b o:Nat)(p:Int × Int)(d:TypeDesc)(hw:Region.wanted op (yielded ops a.tmps)=true)(ho:op.op= .load ty x)(hx:a.eval x= .pointer (some ⟨b,o,none⟩))
  (hC: ∀w,C w->w.rangeAt b o (Kc p)) (hu:P.underlying ty=some d) (hd:d.isRow=true) (hi:(P.info? ty).map (·.size)=some 2)
  (h:Yl P ops C Qa rest (a.put op.dst (.agg (YJ p)))) :Yl P ops C Qa (op::rest) a:=by
 unfold Yl;rw [if_pos hw];refine ⟨_,fun w hc=>?_,h⟩;unfold Oper.quietAt XU;simp only [ho,hx,Gc,Instr.sureAddr,Yq,YX,ZY,run_loadVar_mid w b o ty (Kc p) d (hC w hc) hu hd hi];exact Gw
end
end
section
def NY (s d:ZN) :Bool:=decide (s.st≠2\/d.st≠2)
def MX (s d:ZN) :Bool:=s.sl||d.sl
def NZ (s d:ZN)(mb:Int) :Bool:=decide (18446744073709551615 < s.bal+d.bal\/mb < s.bal+d.bal)
def FU (s d:ZN)(mb:Int) :Int:=if NY s d=true then 8 else if MX s d=true then 9 else if NZ s d mb=true then 3 else 0
def Fg (s:ZN) :ZN:= { s with bal:=0,st:=7}
def PF (s d:ZN) :ZN:= { d with bal:=d.bal+s.bal}
def ES (l:List ZN)(p:Int × Int)(mb:Int) :Int:=
 if p.1 < 0\/p.2 < 0\/(l.length:Int)<=p.1\/(l.length:Int)<=p.2 then 7 else if p.1=p.2 then 12 else FU (l.getD p.1.toNat ZU) (l.getD p.2.toNat ZU) mb
def Aw (l:List ZN)(i j:Nat) :List ZN:=(l.set i (Fg (l.getD i ZU))).set j (PF (l.getD i ZU) (l.getD j ZU))
def Gp (l:List ZN)(p:Int × Int)(mb:Int) :List ZN:=if ES l p mb=0 then Aw l p.1.toNat p.2.toNat else l
def Kb (mb:Int) :List ZN->List (Int × Int)->List ZN
 | l,[]=>l
 | l,p::q=>Kb mb (Gp l p mb) q
def LM (mb:Int) :List ZN->List (Int × Int)->List Bool
 | _,[]=> []
 | l,p::q=>decide (ES l p mb=0)::LM mb (Gp l p mb) q
theorem Rv {s d:ZN}{mb:Int}(h:FU s d mb=0) :s.st=2/\d.st=2/\s.sl=false/\d.sl=false/\s.bal+d.bal<=18446744073709551615/\s.bal+d.bal<=mb:=by
 unfold FU at h
 split at h
 ·omega
 ·split at h
  ·omega
  ·split at h
   ·omega
   ·rename_i h1 h2 h3
    simp [NY] at h1;simp [MX] at h2;simp [NZ] at h3;exact ⟨h1.1,h1.2,h2.1,h2.2,by omega,by omega⟩
theorem l4 {l:List ZN}{p:Int × Int}{mb:Int}(h:ES l p mb=0) : ∃(i j:Nat) (s d:ZN),p=((i:Int),(j:Int))/\i≠j/\l[i]?=some s/\l[j]?=some d/\FU s d mb=0:=by
 unfold ES at h
 split at h
 ·omega
 ·split at h
  ·omega
  ·rename_i h1 h2
   obtain ⟨p1,p2⟩:=p;simp only at h h1 h2;refine ⟨p1.toNat,p2.toNat,l.getD p1.toNat ZU,l.getD p2.toNat ZU,?_,by omega,?_,?_,h⟩
   ·simp only [Prod.mk.injEq];omega
   ·exact yY
   ·exact yY
theorem VG {l:List ZN}{i:Nat}{v:ZN}(h:l[i]?=some v) :l.getD i ZU=v:=by rw [Zo,h]; rfl
theorem xA {l:List ZN}{i j:Nat}{s d:ZN}(mb:Int)(hi:l[i]?=some s)(hj:l[j]?=some d) :ES l ((i:Int),(j:Int)) mb=if i=j then 12 else FU s d mb:=by
 have h1:=(Zk.1 hi).1;have h2:=(Zk.1 hj).1;unfold ES;rw [if_neg Lu];simp only [Y7,VG hi,VG hj]
 by_cases h:i=j
 ·rw [if_pos Zf,if_pos h]
 ·rw [if_neg Zf,if_neg h]
theorem wU (l:List ZN)(i j:Nat) :(Aw l i j).length=l.length:=by simp [Aw]
theorem ZcG (l:List ZN)(p:Int × Int)(mb:Int) :(Gp l p mb).length=l.length:=by unfold Gp; split <;> simp [wU]
theorem RY (mb:Int)(q:List (Int × Int)) : ∀l,(Kb mb l q).length=l.length:=by
 induction q with
 | nil=>intro l; rfl
 | cons p q ih=>intro l; rw [Kb,ih,ZcG]
theorem az (mb:Int)(q:List (Int × Int)) : ∀l,(LM mb l q).length=q.length:=by
 induction q with
 | nil=>intro l; rfl
 | cons p q ih=>intro l; simp [LM,ih]
theorem mx (mb:Int)(p:Int × Int)(q:List (Int × Int)) : ∀l,Kb mb l (q++[p])=Gp (Kb mb l q) p mb:=by
 induction q with
 | nil=>intro l; rfl
 | cons x q ih=>intro l; simp only [Yf,Kb,ih]
theorem mw (mb:Int)(p:Int × Int)(q:List (Int × Int)) : ∀l,LM mb l (q++[p])=LM mb l q++[decide (ES (Kb mb l q) p mb=0)]:=by
 induction q with
 | nil=>intro l; rfl
 | cons x q ih=>intro l; simp only [Yf,Kb,LM,ih]; rfl
theorem Co {q:List (Int × Int)}{k:Nat}{p:Int × Int}(h:q[k]?=some p) :q.take (k+1)=q.take k++[p]:=pA
theorem Hc (mb:Int){I:List ZN->Prop}(hI: ∀l i j s d,I l->i≠j->l[i]?=some s->l[j]?=some d->FU s d mb=0->I ((l.set i (Fg s)).set j (PF s d)))(q:List (Int × Int)) : ∀l,I l->I (Kb mb l q):=by
 induction q with
 | nil=>exact fun l h=>h
 | cons p q ih=>
  intro l h;rw [Kb];refine ih _ ?_;unfold Gp
  split
  ·rename_i h0
   obtain ⟨i,j,s,d,rfl,Kj,hi,hj,hc⟩:=l4 h0;simp only [Aw,Y7,VG hi,VG hj];exact hI l i j s d h Kj hi hj hc
  ·exact h
theorem Zie {l:List ZN}{i j:Nat}{s d:ZN}(Kj:i≠j)(hi:l[i]?=some s)(hj:l[j]?=some d)(k:Nat) :
  ((l.set i (Fg s)).set j (PF s d))[k]?=if k=j then some (PF s d) else if k=i then some (Fg s) else l[k]?:=by
 have h1:=(Zk.1 hi).1;have h2:=(Zk.1 hj).1
 by_cases h:k=j
 ·subst h; simp [h2]
 ·by_cases h':k=i
  ·subst h'; rw [if_neg h,if_pos rfl,Yn (Ji h),List.getElem?_set_self h1]
  ·rw [if_neg h,if_neg h',Yn (Ji h),Yn (Ji h')]
theorem bL {s d:ZN}{mb:Int}(hs:Yp s)(hd:Yp d)(hc:FU s d mb=0) :Yp (Fg s)/\Yp (PF s d):=by
 have h:=Rv hc;have hs':=hs.bal;have hd':=hd.bal;refine ⟨⟨show (Lit.int .u64 0).wf=true by decide,show (Lit.int .i64 7).wf=true by decide⟩,?_,hd.2⟩;simp [PF,Lit.wf,IntKind.min,IntKind.max,IntKind.signed,IntKind.bits];omega
theorem Ch (mb:Int)(q:List (Int × Int))(l:List ZN)(h: ∀v ∈ l,Yp v) : ∀v ∈ Kb mb l q,Yp v:=by
 refine Hc mb (I:=fun l=> ∀v ∈ l,Yp v) (fun l i j s d hI Kj hi hj hc v hv=>?_) q l h;obtain ⟨k,hk⟩:=List.getElem?_of_mem hv;rw [Zie Kj hi hj] at hk;have hf:=bL (hI s (Zz hi)) (hI d (Zz hj)) hc
 split at hk
 ·injection hk with hk; subst hk; exact hf.2
 ·split at hk
  ·injection hk with hk; subst hk; exact hf.1
  ·exact hI v (Zz hk)
theorem Ci (mb:Int)(q:List (Int × Int))(l:List ZN) :Zw (Kb mb l q)=Zw l/\Yh (Kb mb l q)=Yh l:=by
 refine Hc mb (I:=fun m=>Zw m=Zw l/\Yh m=Yh l) (fun m i j s d hI Kj hi hj hc=>?_) q l ⟨rfl,rfl⟩;have h:=Rv hc;have SI:(m.set i (Fg s))[j]?=some d:=jl
 rw [J4 SI,J4 hi,Hn SI,Hn hi,hI.1,hI.2];have e1:XN s=s.bal:=by simp [XN,QG,h.1]
 have e2:XN d=d.bal:=by simp [XN,QG,h.2.1]
 have e3:XN (Fg s)=0:=by simp [XN,QG,Fg]
 have e4:XN (PF s d)=d.bal+s.bal:=by simp [XN,QG,PF,h.2.1]
 rw [e1,e2,e3,e4];simp only [Fg,PF];omega
end
section
open Go Go.RowKit
section
variable {P:YV} {ops:Array Oper} {Q:Exit->Act->Zc->Prop} {md:J9} {S:Zc->Prop}
theorem iq {Zt:Array Bool}{j:Nat}(h:j ∈ YA md ops Zt) :j < ops.size:=by
 obtain ⟨_,o,ho,_⟩:=mem_ready.1 h;exact (Yj.1 ho).1
theorem Cu {i:Nat}{oi:Oper}{v:Zl}{L:Array Bool->Act->Zc->Prop}(hi:ops[i]?=some oi)(Dh: ∀(j:Nat) (o:Oper) cs b,ops[j]?=some o->o.op≠ .select cs b)
  (hQ: ∀c a w,Q (.panic c) (a.put oi.dst v) w->Q (.panic c) a w)
  (FW: ∀Zt a w,L Zt a w->YA md ops Zt=[]) :
  ∀(f:Nat) (Zt:Array Bool) (a:Act) (w:Zc),
   (∀j oj,ops[j]?=some oj->j≠i->Zt.getD j true=false->(∀e ∈ oj.after,Xp md e=true->e.on≠i)->oi.apart ops oj=true)->
   i ∈ YA md ops Zt->YieldsIf P ops S oi v a->S w->
   Qh P md ops Q S ops.size L f (Zt.setIfInBounds i true) (a.put oi.dst v) w->Qh P md ops Q S ops.size L (f+1) Zt a w:=by
 intro f
 induction f with
 | zero=>
  intro Zt a w _ hr hy hS H;refine ⟨fun h=>Sh,fun j hj=>⟨iq hj,?_⟩⟩
  by_cases Pu:j=i
  ·exact px
  ·have:=FW _ _ _ H;have hm:=UW hj Pu;rw [this] at hm
   cases hm
 | succ f ih=>
  intro Zt a w NU hr hy hS H;have bW:=(mem_ready.1 hr).1;refine ⟨fun h=>Sh,fun j hj=>⟨iq hj,?_⟩⟩
  by_cases Pu:j=i
  ·exact px
  ·have h1:=(H.2 j (UW hj Pu)).2;obtain ⟨fW,oj,vZ,Bh⟩:=mem_ready.1 hj;have Hy: ∀e ∈ oj.after,Xp md e=true->e.on≠i:=fun e he hb heq=>by
    exact zi
   have h2:=wpOp_putIf vZ (NU j oj vZ Pu fW Hy) (fun cs b=>Dh i oi cs b hi) (fun cs b=>Dh j oj cs b vZ) hQ hy h1;have Ac: ∀k ok,ops[k]?=some ok->k≠i->(Zt.setIfInBounds j true).getD k true=false->
     (∀e ∈ ok.after,Xp md e=true->e.on≠i)->oi.apart ops ok=true:=fun k ok hk hki bW vY=>by
    refine NU k ok hk hki ?_ vY
    by_cases FY:j=k
    ·subst FY; exact fW
    ·rw [getD_set_ne true FY] at bW; exact bW
   refine wpOp_mono (fun a' w' h3=>⟨h3.2.1,ih (Zt.setIfInBounds j true) a' w' Ac (UW hr (Ji Pu)) h3.1 h3.2.1 ?_⟩) h2;rw [Array.setIfInBounds_comm _ _ Pu];exact h3.2.2
theorem EK {L:Array Bool->Act->Zc->Prop}{w:Zc}(Dh:Qp ops=true)(hQ: ∀c a w,Q (.panic c) a w->False)
  (FW: ∀Zt a w,L Zt a w->YA md ops Zt=[]) (hS:S w) (f:Nat) :
  ∀(ks:List Nat) (Zt:Array Bool) (a:Act),Hf md ops ops.size ks Zt=true->
   Yl P ops S (fun a'=>Qh P md ops Q S ops.size L f (Gk ks Zt) a' w) (ks.filterMap fun k=>ops[k]?) a->Qh P md ops Q S ops.size L (f+ks.length) Zt a w
 | [],Zt,a,_,h=>h
 | k::ks,Zt,a,hB,h=>by
  simp only [Hf,YL,decide_eq_true_eq] at hB;obtain ⟨⟨⟨⟨L4,hp⟩,hr⟩,hf⟩,hB'⟩:=hB
  cases ho:ops[k]? with
  | none=>rw [ho] at hp; cases hp
  | some o=>
   rw [ho] at hp;rw [List.filterMap_cons_some ho] at h;have hr':k ∈ YA md ops Zt:=by simpa using hr
   have hq:qOp P ops S k (Yl P ops S (fun a'=>Qh P md ops Q S ops.size L f (Gk ks (Zt.setIfInBounds k true)) a' w) (ks.filterMap fun k=>ops[k]?)) a:=by unfold qOp; simp only [ho]; exact h
   obtain ⟨v,hy,hK⟩:=Fp ho hp hq;exact Cu ho (Region.noSelect_spec Dh) (fun c a w h=>(hQ _ _ _ h).elim) FW (f+ks.length) Zt a w (Region.free_spec ho hf) hr' hy hS
    (EK Dh hQ FW hS f ks _ _ hB' hK)
theorem TJ {id:Nat}{a:Act}{w:Zc}{l:List Oper}(S:Zc->Prop)(f:Nat)(ks:List Nat)(hm:P.follows .mixedOrders=true)
  (hB:(Qp l.toArray&&Hf .any l.toArray l.toArray.size ks (QI l.toArray.size false)&&decide (f+ks.length=l.toArray.size))=true)
  (hS:S w.drew)
  (h:Yl P l.toArray S (fun a'=>Qh P .any l.toArray (QO Q) S l.toArray.size (fun Zt a' w'=>YA .any l.toArray Zt=[]/\QO Q .normal a' w') f (Gk ks (QI l.toArray.size false)) a' w.drew) (ks.filterMap fun k=>l.toArray[k]?) a) :
  (Code.region id l.toArray true).wp P Q a w:=by
 simp only [YL,decide_eq_true_eq] at hB;obtain ⟨⟨Dh,ht⟩,hf⟩:=hB;refine wp_region_noPanic (wp_region_any hm ?_);have H:=EK (Q:=QO Q) Dh (fun _ _ _ h=>h) (fun Zt a w hL=>hL.1) hS f ks _ a ht h;have:=EJ (Q:=QO Q) (g:=0) (fun Zt a' w' hL=>⟨hL.1,hL.2⟩) _ _ _ _ H;rw [hf] at this;exact this
theorem Hx {f m:Nat}{l:List Oper}{a:Act}{w:Zc}{Zt:Array Bool}(S':Zc->Prop)(ks:List Nat)(hSS: ∀w,S' w->S w)
  (hB:(Qp l.toArray&&Hf .any l.toArray l.toArray.size ks Zt&&decide (f+ks.length=m))=true) (hS:S' w)
  (h:Yl P l.toArray S' (fun a'=>Qh P .any l.toArray (QO Q) S' l.toArray.size (fun Zt a' w'=>YA .any l.toArray Zt=[]/\QO Q .normal a' w') f (Gk ks Zt) a' w) (ks.filterMap fun k=>l.toArray[k]?) a) :
  Qh P .any l.toArray (QO Q) S l.toArray.size (fun Zt a' w'=>YA .any l.toArray Zt=[]/\QO Q .normal a' w') m Zt a w:=by
 simp only [YL,decide_eq_true_eq] at hB;obtain ⟨⟨Dh,ht⟩,hf⟩:=hB;refine Lo hSS m Zt a w ?_;rw [<-hf];exact EK (Q:=QO Q) Dh (fun _ _ _ h=>h) (fun Zt a w hL=>hL.1) hS f ks _ a ht h
theorem wp_load_mid {o:Oper}{a:Act}{w:Zc}{K:Act->Zc->Prop}(ty:ZL)(x:YW)(ho:o.op= .load ty x)
  (b off:Nat) (hx:a.eval x= .pointer (some ⟨b,off,none⟩)) (cs:List Zl) (d:TypeDesc) (hc:w.rangeAt b off cs)
  (hu:P.underlying ty=some d) (hd:d.isRow=true) (hi:(P.info? ty).map (·.size)=some cs.length) (h:K (a.put o.dst (.agg cs.toArray)) w) :o.wp P a w K Q:=by
 unfold Oper.wp XU;simp only [ho,hx,Gc,Instr.sureAddr,Yq,YX,ZY,run_loadVar_mid w b off ty cs d hc hu hd hi];exact h
end
end
section
open Go Go.RowKit
section
variable {P:YV} {ops:Array Oper} {Q:Exit->Act->Zc->Prop} {md:J9} {S:Zc->Prop}
theorem Ti {id:Nat}{a:Act}{w:Zc}{l:List Oper}(S:Zc->Prop)(f:Nat)(ks:List Nat)(hS:S w.drew)
  (h:Yl P l.toArray S (fun a'=>Qh P .any l.toArray (QO Q) S l.toArray.size (fun Zt a' w'=>YA .any l.toArray Zt=[]/\QO Q .normal a' w') f (Gk ks (QI l.toArray.size false)) a' w.drew) (ks.filterMap fun k=>l.toArray[k]?) a)
  (hm:P.follows .mixedOrders=true:=by kernel_rfl)
  (hB:(Qp l.toArray&&Hf .any l.toArray l.toArray.size ks (QI l.toArray.size false)&&decide (f+ks.length=l.toArray.size))=true:=by kernel_rfl) :
  (Code.region id l.toArray true).wp P Q a w:=TJ S f ks hm hB hS h
theorem NL {f m:Nat}{l:List Oper}{a:Act}{w:Zc}{Zt:Array Bool}(S':Zc->Prop)(ks:List Nat)(hS:S' w)
  (h:Yl P l.toArray S' (fun a'=>Qh P .any l.toArray (QO Q) S' l.toArray.size (fun Zt a' w'=>YA .any l.toArray Zt=[]/\QO Q .normal a' w') f (Gk ks Zt) a' w) (ks.filterMap fun k=>l.toArray[k]?) a)
  (hSS: ∀w,S' w->S w:=by exact fun _ h=>h)
  (hB:(Qp l.toArray&&Hf .any l.toArray l.toArray.size ks Zt&&decide (f+ks.length=m))=true:=by kernel_rfl) :
  Qh P .any l.toArray (QO Q) S l.toArray.size (fun Zt a' w'=>YA .any l.toArray Zt=[]/\QO Q .normal a' w') m Zt a w:=Hx S' ks hSS hB hS h
end
end
section
open Go Go.RowKit Go.Deep
def Qj (l:List ZN) :List Int:=l.map (·.bal)
theorem Bx {l:List ZN}{k:Nat}{v:ZN}(h:l[k]?=some v) :l.take (k+1)=l.take k++[v]:=by
 have hk:=(Zk.1 h).1;exact pA
theorem iW (l:List ZN) : ∀n,n<=l.length->XR (Qj l) n=Zw (l.take n)
 | 0,_=>by simp [XR,Zw]
 | n+1,h=>by
  obtain ⟨v,hv⟩ : ∃v,l[n]?=some v:=⟨_,Zg Zf⟩;rw [Bx hv,Gq,XR,iW l n Zf];simp [Zw,Qj,Zo,hv]
theorem oJ (l:List ZN) :XR (Qj l) l.length=Zw l:=by rw [iW l _ (Zh _),List.take_length]
theorem T8: ∃i,Tryz.prog.info? 23=some i/\i.zero=some (.int .u64 0)/\i.size=1/\i.bytes=8:=by
 have h:(Tryz.prog.info? 23).map (fun i=>(i.zero,i.size,i.bytes))=some (some (.int .u64 0),1,8):=ZC
 cases hi:Tryz.prog.info? 23 with
 | none=>rw [hi] at h; cases h
 | some i=>
  rw [hi] at h;simp at h;exact ⟨i,rfl,h.1,h.2.1,h.2.2⟩
def Qw (l:List ZN) :List Zl:=(Qj l).map (.int .u64)
theorem MG (l m:List ZN) :Qw (l++m)=Qw l++Qw m:=by simp [Qw,Qj]
theorem FL.at2 {w:Zc}{S:Nat->Prop}{a:Option Addr}{l:List ZN}(h:FL w S a l){i:Nat}{v:ZN}(hi:l[i]?=some v) : ∃b off,a=some ⟨b,off,none⟩/\w.cell? ⟨b,off+i*7,none⟩=some (.int .u64 v.bal)/\w.cell? ⟨b,off+i*7+1,none⟩=some (.int .i64 v.st)/\w.rangeAt b (off+i*7) v.row:=by
 obtain ⟨b,off,h1,h2⟩:=h.at hi;exact ⟨b,off,h1,h2 0 _ rfl,h2 1 _ rfl,h2⟩
theorem bj (S:Nat->Prop)(a:Option Addr)(cp:Nat)(l:List ZN)(w:Zc)(h:FL w S a l)(hl:l.length<=4096) :
  Zv Zb 65 #[.slice a l.length cp] w fun e w'=> ∃v,e= .returned v/\w'.ownsRow w.heap.size 23 1 v l.length (Qw l)/\Zp w.heap.size w w':=by
 have HL:=Za h;obtain ⟨n,hn⟩:=ZR (l.length);rw [hn] at hl ⊢;have HN:=Za hn;obtain ⟨j0,OP,GO,GF,EO⟩:=T8;clear h hn;go_enter func65,ntmps65;go_wp2;go_loopw [3,4] (fun s3 s4 wr=> ∃k:Nat,k<=n/\s4= .int .i64 k/\Zj (wr.ownsRow w.heap.size 23 1 s3 k (Qw (l.take k)))/\Zp w.heap.size w wr) (fun _ s4 _=>n -(intOf s4).toNat)
 case atStart=>exact ZfB
 case round=>
  obtain ⟨k,hk,rfl,HO,BR⟩:=hrel
  by_cases XJ:k < n
  ·obtain ⟨v,hv⟩ : ∃v,l[k]?=some v:=⟨_,Zg Yd⟩;obtain ⟨b,off,rfl,e0,_,_⟩:=(HL.o.below BR).at2 hv;have HV:=Za hv;clear hv;go_wp2_with (at_builtin; refine YR _ rfl (.tmp 11) (.tmp 17) 121 rfl w.heap.size 23 j0 _ 1 8 underlying121 OP GO GF EO rfl Nat.one_pos u3 k (Qw (l.take k)) rfl (HO.o.alloc _) (some ⟨wr.heap.size,0,none⟩) 1 1 [.int .u64 v.bal] rfl rfl (fun _=>⟨_,rfl,cell_one_new wr _ _⟩) BW Vx Zf (by have:=BR.size; simp; omega) ?_; intro v1 w1 ho hg Al);have hZ:w1.ownsRow w.heap.size 23 1 v1 (k+1) (Qw (l.take (k+1)))/\Zp w.heap.size w w1:=by
    refine ⟨by rw [Bx HV.o,MG]; exact ho,?_⟩;have BK:=BR.size;refine (BR.alloc BK _).grown hg Xo (fun q hq=>?_)
    rcases HO.o.2 with ⟨h1,_⟩ | ⟨g,Bg,cur,h1,h2,_⟩
    ·exact CF
    ·exact po
   have HZ:=Za hZ;clear ho hg Al hZ e0 HO BR;go_wp2;exact ZeS
  ·obtain rfl:k=n:=Zf;have hz:wr.ownsRow w.heap.size 23 1 u3 k (Qw l):=by
    have:=HO.o;rwa [List.take_of_length_le dB] at this
   have HZ:=Za hz;clear XJ hz;have XJ: ¬k < k:=Zf;go_wp2;go_ret;exact ⟨_,rfl,HZ.o,BR⟩
theorem xb {w:Zc}{base g n cp:Nat}{l:List ZN}(h:w.ownsRow base 23 1 (.slice (some ⟨g,0,none⟩) n cp) n (Qw l))(hl:l.length=n) : ∀i,i < n->w.cell? ⟨g,0+i,none⟩=some (.int .u64 ((Qj l).getD i 0)):=fun i hi=>by
 have e:(Qw l)[i]?=some (.int .u64 ((Qj l).getD i 0)):=by
  simp only [Qw,Qj,List.map_map,ZM,Zo,Zg (by omega:i < l.length)];rfl
 have:=h.cells (g:=g) rfl i _ e;rwa [add_plain] at this
theorem Hq {l:List ZN}(h: ∀v ∈ l,Yp v)(i:Nat) :0<=(Qj l).getD i 0/\(Qj l).getD i 0<=18446744073709551615:=by
 rw [Zo,Qj,ZM]
 cases hi:l[i]? with
 | none=>simp
 | some v=>exact (h v (Zz hi)).bal
theorem lY (v:Zl)(base:Nat)(l:List ZN)(w:Zc)(h:w.ownsRow base 23 1 v l.length (Qw l))(hl:l.length<=4096)(hf: ∀v ∈ l,Yp v) :
  Xc 67 #[v] w (.tuple #[.int .u64 (if Zw l<=18446744073709551615 then Zw l else 0),.bool (decide (Zw l<=18446744073709551615))]):=by
 rcases h.2 with ⟨rfl,h0⟩ | ⟨g,cp,cur,rfl,_⟩
 ·obtain rfl:=ZO h0;exact (S8 none 0 w).mono fun e w' ⟨he,hw⟩=>⟨by rw [he]; simp [Zw],0,hw.symm⟩
 ·have:=AR g 0 l.length cp (Qj l) w Zf (xb h rfl) (Hq hf);refine this.mono fun e w' ⟨he,m,hm⟩=>⟨?_,m,hm⟩
  rw [he,BB,KS,oJ]
end
section
open Go Go.ChangeShapes Go.WideShapes Go.RowKit Go.Deep
theorem PL {w w':Zc}{b o:Nat}{cs:List Zl}(h:w.rangeAt b o cs)(hb:w'.heap[b]?=w.heap[b]?) :w'.rangeAt b o cs:=fun j v hv=>(World.cell?_of_block (w:=w) (a:=⟨b,o+j,none⟩) hb).trans (h j v hv)
section
variable {α:Type} {row:α->List Zl} {k:Nat}
def YE (row:α->List Zl)(l:List α) :List Zl:=l.flatMap row
theorem Ef (hk: ∀v,(row v).length=k)(l:List α) :(YE row l).length=l.length*k:=by
 induction l with
 | nil=>simp [YE]
 | cons x l ih=>simp only [YE,Jh,List.length_append,hk,Yg] at ih ⊢; rw [ih,Nat.succ_mul]; omega
theorem Ku (l m:List α) :YE row (l++m)=YE row l++YE row m:=by simp [YE]
theorem FV (v:α) :YE row [v]=row v:=by simp [YE]
theorem Mr (hk: ∀v,(row v).length=k){l:List α}{i:Nat}{v:α}(h:l[i]?=some v){j:Nat}(hj:j < k) :(YE row l)[i*k+j]?=(row v)[j]?:=by
 induction l generalizing i with
 | nil=>simp at h
 | cons x l ih=>
  cases i with
  | zero=>
   simp at h;subst h;simp only [YE,Jh,JL,Nat.zero_add];rw [List.getElem?_append_left (by rw [hk]; exact hj)]
  | succ i=>
   simp only [List.getElem?_cons_succ] at h;have:=ih h;simp only [YE,Jh] at this ⊢;rw [List.getElem?_append_right (by rw [hk,Nat.succ_mul]; omega),hk,show (i+1)*k+j - k=i*k+j by rw [Nat.succ_mul]; omega];exact this
theorem AP (hk: ∀v,(row v).length=k){w:Zc}{b off:Nat}{l:List α}(h: ∀j u,(YE row l)[j]?=some u->w.cell? ⟨b,off+j,none⟩=some u){i:Nat}{v:α}(hi:l[i]?=some v) :w.rangeAt b (off+i*k) (row v):=by
 intro j u hu;have hj:j < k:=by rw [<-hk v]; exact (Zk.1 hu).1
 rw [Nat.add_assoc];exact h _ _ ((Mr hk hi hj).trans hu)
def Vy (row:α->List Zl)(k:Nat)(w:Zc)(S:Nat->Prop)(a:Option Addr)(l:List α) :Prop:=
 0 < l.length-> ∃b off,a=some ⟨b,off,none⟩/\ ¬S b/\b < w.heap.size/\ ∀i v,l[i]?=some v->w.rangeAt b (off+i*k) (row v)
variable {w w':Zc} {S T:Nat->Prop} {a:Option Addr} {l:List α} {B:Nat} {e:ZL}
theorem Vy.nil (w:Zc)(S:Nat->Prop)(a:Option Addr) :Vy row k w S a ([] :List α):=fun h=>by simp at h
theorem Vy.same (h:Vy row k w S a l)(hs:w.heap.size<=w'.heap.size)(hb: ∀b,b < w.heap.size-> ¬S b->w'.heap[b]?=w.heap[b]?) :Vy row k w' S a l:=fun h0=>by
 obtain ⟨b,off,h1,h2,h3,h4⟩:=h h0;exact ⟨b,off,h1,h2,by omega,fun i v hi=>PL (h4 i v hi) (hb b h3 h2)⟩
theorem Vy.below (h:Vy row k w S a l)(hb:Zp w.heap.size w w') :Vy row k w' S a l:=h.same hb.size fun b XJ _=>hb.block b XJ
theorem Vy.kept (h:Vy row k w S a l)(hb:ZA S w w') :Vy row k w' S a l:=h.same hb.size fun b XJ hn=>hb.block b XJ hn
theorem Vy.more (h:Vy row k w S a l)(hT: ∀i,i < w.heap.size->T i->S i) :Vy row k w T a l:=fun h0=>by
 obtain ⟨b,off,h1,h2,h3,h4⟩:=h h0;exact ⟨b,off,h1,fun ht=>h2 (hT b h3 ht),h3,h4⟩
theorem Vy.at (h:Vy row k w S a l){i:Nat}{v:α}(hi:l[i]?=some v) : ∃b off,a=some ⟨b,off,none⟩/\ ¬S b/\b < w.heap.size/\w.rangeAt b (off+i*k) (row v):=by
 obtain ⟨b,off,h1,h2,h3,h4⟩:=h mL;exact ⟨b,off,h1,h2,h3,h4 i v hi⟩
variable {s:Zl} {n:Nat} {xs:List Zl}
theorem hH (h:w.ownsRow B e k s n xs) : ∃a cp,s= .slice a n cp/\n<=cp/\cp<=XL:=Zi6
theorem Ld (h:w.ownsRow B e k s n xs)(hb: ∀i,s.ownBlock=some i->w'.heap[i]?=w.heap[i]?) :w'.ownsRow B e k s n xs:=yI
theorem QD (h:w.ownsRow B e k s n xs){C:Nat}(hB:C<=B) :w.ownsRow C e k s n xs:=yP
theorem xh (h:w.ownsRow B e k s n xs){C:Nat}(hB: ∀i,s.ownBlock=some i->C<=i) :w.ownsRow C e k s n xs:=Zfc
theorem Vk (h:w.ownsRow B e k s n xs)(hb:Zp w.heap.size w w') :w'.ownsRow B e k s n xs:=Ld h fun i hi=>hb.block i (h.lt i hi).2
theorem AE (h:w.ownsRow B e k s n xs)(hb:ZA S w w')(hS: ∀i,s.ownBlock=some i-> ¬S i) :w'.ownsRow B e k s n xs:=Ld h fun i hi=>hb.block i (h.lt i hi).2 (hS i hi)
theorem Gl (h:w.ownsRow B e k s n xs){i:Nat}(hi:s.ownBlock=some i) : ∃cur,Zu w i e cur/\B<=i:=by
 rcases h.2 with ⟨rfl,_⟩ | ⟨g,cp,cur,rfl,h1,h2,_⟩
 ·cases hi
 ·simp only [YZ,QW] at hi;subst hi;exact ⟨cur,h2,h1⟩
theorem Ax (w:Zc)(t:ZL)(cs:List Zl) : ∀j u,cs[j]?=some u->(w.alloc (.cells cs.toArray t)).cell? ((⟨w.heap.size,0,none⟩ :Addr).add j)=some u:=fun j u hu=>by
 rw [add_plain,(Zs w t cs.toArray).cell];simpa using hu
theorem RP (hk: ∀v,(row v).length=k)(h:w.ownsRow B e k s n (YE row l))(hl:l.length=n)(hS: ∀i,s.ownBlock=some i-> ¬S i) : ∃a cp,s= .slice a n cp/\n<=cp/\cp<=XL/\Vy row k w S a l:=by
 rcases h.2 with ⟨rfl,h0⟩ | ⟨g,cp,cur,rfl,h1,h2,h3,h4,h5⟩
 ·subst h0;refine ⟨none,0,rfl,by omega,by unfold XL; omega,fun h=>by omega⟩
 ·refine ⟨_,cp,rfl,h3,h4,fun h0=>⟨g,0,rfl,hS g rfl,(Yj.1 h2).1,fun i v hi=>?_⟩⟩;exact AP hk (fun j u hu=>by
   have:=h.cells (g:=g) rfl j u hu;rwa [add_plain] at this) hi
end
section
variable {P:YV} (w:Zc)
def ea (P:YV)(xs ys:Array Zl)(f:Field) :Prop:=
 f.name≠ "_" /\((∃k n m,P.underlying f.type=some (.int k)/\xs[f.offset]?=some (.int k n)/\ys[f.offset]?=some (.int k m))\/(∃n m,P.underlying f.type=some .bool/\xs[f.offset]?=some (.bool n)/\ys[f.offset]?=some (.bool m))\/
  ∃n m,P.underlying f.type=some .string/\xs[f.offset]?=some (.string n)/\ys[f.offset]?=some (.string m))
theorem IH {n m:ByteArray} :(n.toList==m.toList)=true ↔ n=m:=by
 rw [beq_iff_eq,ByteArray.toList_eq,ByteArray.toList_eq];constructor
 ·intro h;have:n.data=m.data:=Array.toList_inj.1 h
  cases n; cases m; simp_all
 ·rintro rfl; rfl
theorem Pn (d:Nat)(xs ys:Array Zl) :
  ∀(fs:List Field),(∀f ∈ fs,ea P xs ys f)->
   ∃r,(Vh (d+1) xs ys fs).run P w= .ok r w/\(r=true ↔ ∀f ∈ fs,xs[f.offset]?=ys[f.offset]?)
 | [],_=>⟨true,by simp [Vh],by simp⟩
 | f::fs,h=>by
  obtain ⟨Ae,h1⟩:=h f ZE;obtain ⟨r,hr,Pw⟩:=Pn d xs ys fs (fun j hj=>h j Ng);obtain ⟨x,y,b,hn,hm,hp,Aj,hq,hb⟩ : ∃x y b,xs[f.offset]?=some x/\ys[f.offset]?=some y/\(part f.type xs f.offset).run P w= .ok x w/\(part f.type ys f.offset).run P w= .ok y w/\(Bd (d+1) f.type x y).run P w= .ok b w/\(b=true ↔ x=y):=by
   rcases h1 with ⟨k,n,m,hk,hn,hm⟩ | ⟨n,m,hk,hn,hm⟩ | ⟨n,m,hk,hn,hm⟩
   ·exact ⟨_,_,_,hn,hm,Qr w Nf hn,Qr w Nf hm,run_equalIn_int (P:=P) w d f.type k k n m hk,by simp⟩
   ·exact ⟨_,_,_,hn,hm,Qr w Nf hn,Qr w Nf hm,run_equalIn_bool' (P:=P) w d f.type n m hk,by simp⟩
   ·exact ⟨_,_,_,hn,hm,Qr w Nf hn,Qr w Nf hm,run_equalIn_string (P:=P) w d f.type n m hk,fun h=>by rw [IH.1 h],fun h=>by injection h with h; exact IH.2 h⟩
  cases b with
  | true=>
   obtain rfl:=hb.1 rfl;refine ⟨r,by simp only [Vh,Ae,ne_eq,not_false_eq_true,if_true,Yq,hp,Aj,hq,ZY]; simpa using hr,?_⟩;simp only [ZX,forall_eq_or_imp,hn,hm,true_and];exact Pw
  | false=>
   refine ⟨false,by simp only [Vh,Ae,ne_eq,not_false_eq_true,if_true,Yq,hp,Aj,hq,ZY]; simp,?_⟩;have Kj:x≠y:=fun e=>by have:=hb.2 e; cases this
   simp [hn,hm,Kj]
theorem Ry {t:ZL}{fs:Array Field}(xs ys:Array Zl)(hu:P.underlying t=some (.struct fs))(hp:P.stoodInHeld t=false)(hx: ∀f ∈ fs.toList,ea P xs ys f) :
  ∃r,(Bd 10000 t (.agg xs) (.agg ys)).run P w= .ok r w/\(r=true ↔ ∀f ∈ fs.toList,xs[f.offset]?=ys[f.offset]?):=by
 have hf:P.fieldsOf t=fs:=by simp [Program.fieldsOf,hu]
 rw [run_equalIn_struct w 9999 t xs ys (by rw [hf]; exact hu) hp,hf];exact Pn w 9998 xs ys _ hx
end
theorem TC {w:Zc}{base b off n:Nat}{cs:List Zl}(h:w.cells? base ((⟨b,off,none⟩ :Addr).add n) cs.length=some cs) :w.rangeAt b (off+n) cs:=fun j v hv=>by
 obtain ⟨_,_,h2⟩:=World.cells?_some h;have:=h2 j (Zk.1 hv).1;rw [add_plain,add_plain] at this;exact this.trans hv
def jA {α:Type}(row:α->List Zl)(k:Nat)(Fit:α->Prop)(w:Zc)(a:Option Addr)(len cap:Nat) :Prop:=
 len<=cap/\cap<=XL/\ ∃l:List α,l.length=len/\(∀v ∈ l,Fit v)/\Vy row k w (fun _=>False) a l
section
variable {α:Type} [Inhabited α] {row:α->List Zl} {k:Nat} {Fit:α->Prop} {H:Type} {enc:ZL × Zl->H} {P:YV} {w:Zc} {base:Nat} {held:Bool}
theorem cm {t e:ZL}{n:Nat}{v:Zl}{y:DataW H × List MemPlace}(ht:P.underlying t=some (.slice e))(hC:P.cellsOf e=k)(hk: ∀v,(row v).length=k)(hp:0 < k)
  (htr: ∀(n:Nat) (cs:List Zl) (x:DataW H × List MemPlace),DataW.trod enc P w base (fun _=>true) held n e cs=some x->cs.length=k-> ∃v:α,cs=row v/\Fit v)
  (hf:DataW.trod enc P w base (fun _=>true) held n t [v]=some y) : ∃(a:Option Addr) (len cap:Nat),v= .slice a len cap/\jA row k Fit w a len cap:=by
 rcases open_slice ht hf with h0 | ⟨x,l,c,m,n,D,Pl,Hk,hb,hl,hm,LF,hx,hi⟩
 ·have Hk:=h0.1;injection Hk with Hk;exact ⟨none,0,0,Hk,by omega,by unfold XL; omega,[],rfl,by simp,Vy.nil _ _ _⟩
 ·injection Hk with Hk;rw [hC] at hi;obtain ⟨f,hfv⟩:=choose_lt (α:=α) (p:=fun i v=>w.cells? base (x.add (i*k)) k=some (row v)/\Fit v) (n:=l) (fun i FX=>by
   obtain ⟨cs',h1,h2⟩:=hi i (by rw [LF]; simp; omega);obtain ⟨v,rfl,DB⟩:=htr _ _ _ h2 (World.cells?_some h1).2.1;exact ⟨v,h1,DB⟩)
  refine ⟨some x,l,c,by simpa using Hk,by simpa using hl,hm,(List.range l).map f,by simp,fun v hv=>?_,fun h0=>?_⟩
  ·obtain ⟨i,NV,rfl⟩:=List.mem_map.1 hv;exact (hfv i (by simpa using NV)).2
  ·simp at h0;obtain ⟨b,off,spot⟩:=x;have RG:=(World.cells?_some (hfv 0 h0).1).2.2 0 hp;rw [JL] at RG;have hl0:0 < (row (f 0)).length:=by rw [hk]; exact hp
   rw [Zg hl0] at RG;have hs:spot=none:=by
    have:=World.cell?_spot RG;simpa [Addr.add] using this
   subst hs;refine ⟨b,off,rfl,fun h=>h,by have:=GW RG; rwa [add_plain,add_plain] at this,fun i v hiv=>?_⟩;simp only [ZM] at hiv;have FX:i < l:=by
    rcases Nat.lt_or_ge i l with h | h
    ·exact h
    ·simp [h] at hiv
   simp [FX] at hiv;subst hiv;exact TC (base:=base) (by rw [hk]; exact (hfv i FX).1)
theorem open_lstR {t e:ZL}{r:Reach}{b0:Nat}{v:Zl}{d:DataW H}{p:List MemPlace}(ht:P.underlying t=some (.slice e))(hC:P.cellsOf e=k)(hk: ∀v,(row v).length=k)(hp:0 < k)
  (htr: ∀(n:Nat) (cs:List Zl) (x:DataW H × List MemPlace),DataW.trod enc P w base (fun _=>true) held n e cs=some x->cs.length=k-> ∃v:α,cs=row v/\Fit v)
  (hv:Value.okWide P w r b0 t v) (h:DataW.Trod enc P w base (fun _=>true) held t v d p) : ∃(a:Option Addr) (len cap:Nat),v= .slice a len cap/\jA row k Fit w a len cap:=by
 obtain ⟨a,len,cap,rfl⟩:=okWide_slice ht hv;obtain ⟨fuel,hf⟩:=h;exact cm ht hC hk hp htr hf
end
end
end Go.Proofs.YtobgbcdgffgdhaaGreat
