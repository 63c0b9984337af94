/- Part 7 of 31: L07Excl L07Two L07AddV L07SetV L07SetO L07SetW L07AllV L16Pair L16Plain Whole WrapW L07Refs Seqs L17Py. -/
import Derived.Test.YtobgbcdgffgdhaaGreatZw00
import Derived.Test.YtobgbcdgffgdhaaGreatZw06
namespace Go.Proofs.YtobgbcdgffgdhaaGreat
set_option linter.unusedVariables false
set_option linter.unusedSimpArgs false
set_option maxRecDepth 100000
set_option maxHeartbeats 8000000
open _root_.Array renaming all_eq_true_iff_forall_mem -> ZK, getElem?_eq_some_iff -> Ym, replicate -> Qk
open _root_.Go.RowKit renaming Below -> Zp
open _root_.Go.RowKit.Below renaming refl -> Zo
open _root_.Go.Proofs.YtobgbcdgffgdhaaGreat.Zu renaming alloc -> Yw, drew -> J3, drewN -> Xq, new -> Zt
open _root_.Bool renaming and_eq_true -> YO
open _root_.Go renaming Calls -> Zv, NoPanic -> Qq, Operand -> YN, Program -> YL, TypeId -> ZJ, Value -> Zk, World -> Zc, execOp -> XL, heap_alloc_new -> ZA, maxLen -> X8, ready_mono -> Uo, run_part_plain -> X9, wpQuiet -> ZZ
open _root_.Go.Instr renaming buildSlice -> XD, loadAt -> Uv
open _root_.Int renaming toNat_natCast -> YT
open _root_.Go.Proofs.YtobgbcdgffgdhaaGreat.Zx renaming of_below -> YR, refl -> ZM
open _root_.List renaming append_assoc -> Qb, cons_append -> Yf, eq_nil_of_length_eq_zero -> ZR, flatMap_cons -> QZ, getD_eq_getElem?_getD -> Zm, getElem?_eq_getElem -> Zg, getElem?_eq_some_iff -> Zj, getElem?_map -> ZH, getElem?_set_ne -> Yo, length_cons -> Yc, length_set -> Xj, length_take -> Xr, map_cons -> YY, map_nil -> KG, map_toArray -> JI, mem_cons -> ZU, mem_of_getElem? -> Zy, not_mem_nil -> Yg, take_append_drop -> Qz
open _root_.Nat renaming le_refl -> Zh, mul_le_mul_right -> XQ, zero_mul -> Jw
open _root_.Ne renaming symm -> Q0
open _root_.Go.Op renaming eqFields -> KJ, equalIn -> Gg
open _root_.Go.Oper renaming wp -> Jp
open _root_.Option.some renaming injEq -> QC
open _root_.Go.Region renaming Mode -> JS, binds -> Xd, noSelect -> X3, ready -> Yq
open _root_.Go.Result renaming andThen_ok -> ZW
open _root_.Go.Sem renaming run_bind -> Yr, run_pure -> YU
open _root_.Go.Proofs.Tryz renaming prog -> Zb
open _root_.Go.Value renaming ownBlock -> Y7, slice -> Yj
open _root_.Go.World.ownsRow renaming alloc -> Qv
open _root_.Go.World renaming setRow_alloc_new -> Zr
open Go.Proofs.Tryz
theorem FK {G:Prop}(h:G:=by simp only; omega) :G:=h
theorem iV {G:Prop}(h:G:=by have:=Zu.new (w.alloc (.cells #[.pointer (some ⟨b,0,none⟩)] 83)) 68 (Zd v); simpa using this) :G:=h
theorem GU {G:Prop}(h:G:=by unfold maxLen; omega) :G:=h
theorem DL {G H:Prop} (k:H) (h:DE H->G:=by
  intro zk;iterate 3 (go_big_quiet_step ((intros; rfl)))
  exact zk.o) :G:=h ⟨k⟩
theorem Zhf {G H:Prop} (k:H) (h:DE H->G:=by
  intro zk;refine Uk (fun w'=>w'.cell? ⟨n0,0,none⟩=some (.pointer (some ⟨b,0,none⟩))/\w'.cell? ⟨b,4,none⟩=some (.int .u64 T)/\w'.cell? ⟨n0+2,0,none⟩=some (.int .u64 old.bal)/\w'.cell? ⟨n0+1,0,none⟩=some (.int .u64 v.bal)) (m:=15) (f:=6) [0,1,2,3,4,5,6,7,8] (fun _ _=>trivial) ZC Oy.o ?_;exact zk.o) :G:=h ⟨k⟩
theorem Zhg {G H:Prop} (k:H) (h:DE H->G:=by
  intro zk;refine SR (fun w'=>w'.cell? ⟨n0,0,none⟩=some (.pointer (some ⟨b,0,none⟩))/\w'.cell? ⟨b,4,none⟩=some (.int .u64 T)/\w'.cell? ⟨n0+2,0,none⟩=some (.int .u64 old.bal)/\w'.cell? ⟨n0+1,0,none⟩=some (.int .u64 v.bal)) (m:=4) (f:=0) [11,12,13,14] S3 ?_;exact zk.o) :G:=h ⟨k⟩
theorem Zhh {G H:Prop} (k:H) (h:DE H->G:=by
  intro zk;refine Fh func220 rfl ?_;simp only [ntmps220,List.size_toArray,List.length_cons,List.length_nil,Nat.reduceAdd,Nat.reduceSub,Array.replicate_succ,Array.replicate_zero,List.push_toArray,List.append_toArray,List.nil_append,List.cons_append];exact zk.o) :G:=h ⟨k⟩
theorem I2 {G H:Prop} (k:H) (h:DE H->G:=by
  intro zk;show wpQuiet _ _ _ _ [_,_,_,_,_,_] _;exact zk.o) :G:=h ⟨k⟩
theorem oB {G H:Prop} (k:H) (h:DE H->G:=by
  intro zk;show wpQuiet _ _ _ _ [_,_,_,_,_,_,_,_,_] _;exact zk.o) :G:=h ⟨k⟩
theorem zT8 {G:Prop} (h:G:=by
  clear x0 x1 c2 c3 c4 f3 f4 HB HK HE W;obtain ⟨-,-,c2,-,-⟩:=HR.o.cells;refine GL 8 ?_;refine GM ?_;refine Zhl ?_;refine X5 ?_
  repeat (go_big_quiet_step (fail))
  refine XK ?_;intro _ Jq;obtain ⟨n3,Y9⟩:=Jq;subst Y9;refine FG rfl _ _ _ rfl (HR.o.2.drewN n3) underlying3 underlying144 v.st (cs - 1) rfl rfl rfl HW.o ?_;intro W3 xf hg3;have HZ:=Za (And.intro ((HR.o.drewN n3).counted xf hg3) ((Pz.o.drewN n3).trans (Zx.of_grown (S:=fun i=>i=m) hg3 (fun i hi=>by injection hi)) (fun i _ e=> .inr e)));have c23:=(c2:W2.cell? ⟨b,2,none⟩=_);have z1:W3.cell? ⟨n0,1,none⟩=some (.int .i64 v.st):=(World.cell?_of_block (w:=W2) (a:=⟨n0,1,none⟩) (hg3.block n0 (Ga y1) (by intro e; injection e with e; subst e; obtain ⟨es,clock,hm,_⟩:=HR.o.2; simp [World.cell?,hm] at y1))).trans y1;have HC3:=Za xf;clear xf hg3 y1 c2 c23;have d2:=HZ.o.1.cells.2.2.1;have Gt:Oa c v.st (cs - 1) v.st=cs - 1:=by simp [Oa]
  have HS:=Za Gt;clear Gt;go_wp2;simp only [Act.put];refine J2 (fun w'=> ∃n,w'=W3.drewN n) ZC ZC ⟨1,rfl⟩ ?_;iterate 6 (go_big_quiet_step (fail))
  refine j8 _ _ rfl rfl (fun w h=>by obtain ⟨n,rfl⟩:=h; exact HC3.o.drewN n) underlying3 underlying144 LU v.st rfl rfl HW.o ?_;rw [HS.o];refine X5 ?_
  repeat (go_big_quiet_step (fail))
  refine XK ?_;intro _ Jq;obtain ⟨n4,Y9⟩:=Jq;subst Y9
  by_cases hz:((cs - 1:Int)==0)=true
  ·go_wp2_with fail;refine GL 6 ?_;refine GM ?_
   repeat (go_big_quiet_step (fail))
   refine XK ?_;intro _ Jq;obtain ⟨n5,Y9⟩:=Jq;subst Y9;refine Wg rfl _ _ rfl ((HC3.o.drewN n4).drewN n5) underlying3 underlying144 v.st rfl rfl HW.o (by rw [HS.o]; simpa using hz) ?_;intro W4 xh hg4;have HY:=Za (And.intro (JJ.counted ((HZ.o.1.drewN n4).drewN n5) xh hg4) (((HZ.o.2.drewN n4).drewN n5).trans (Zx.of_grown (S:=fun i=>i=m) hg4 (fun i hi=>by injection hi)) (fun i _ e=> .inr e)));clear xh hg4;go_wp2;go_end0;exact ⟨rfl,HY.o⟩
  ·have hz:((cs - 1:Int)==0)=false:=by simpa using hz
   go_wp2_with fail;go_end0;exact ⟨rfl,HZ.o.1.drewN n4,HZ.o.2.drewN n4⟩) :G:=h
theorem ZhA {G:Prop} (h:G:=by
  have e1:=JK hi ZS;have e2:=Fc hi ZS;have e3:=Ag hi ⟨0,old.st+1,false,0,0,0,0⟩ old.st;have xC: ∀x ∈ l.set i ZS,Yh x:=fun x hx=>by
   rcases List.mem_or_eq_of_mem_set hx with hx | rfl
   ·exact hf x hx
   ·exact ⟨by decide,by decide⟩
  have a1:=Jz xC;have a2:=GV xC;have a3:=Ux (l.set i ⟨0,old.st+1,false,0,0,0,0⟩) old.st;have z1:ZS.bal=0:=rfl;have z2:XB ZS=0:=rfl;simp only [if_true] at e3;rw [if_neg Zf] at e3;refine ⟨by omega,by omega,by omega,by omega⟩) :G:=h
theorem Zie {G:Prop} (h:G:=by
  rw [<-hw3];exact ⟨ZD _ Oy.o.1,ZD _ Oy.o.2.1,ZD _ Oy.o.2.2.1,ZD _ Oy.o.2.2.2⟩) :G:=h
theorem Zio {G:Prop} (h:G:=by
  have:=h.1;unfold Zu at this;rw [h3] at this;injection this with this;injection this with _ h9;exact absurd h9 YW) :G:=h
theorem tM {G:Prop} (h:G:=by
  refine ⟨h.1,h.2.imp id ?_⟩;rintro ⟨g,cp,cur,rfl,h1,h2⟩;exact ⟨g,cp,cur,rfl,by omega,h2⟩) :G:=h
theorem ZaP {G:Prop} (h:G:=by
  refine ⟨h.1,h.2.imp id ?_⟩;rintro ⟨g,cp,cur,rfl,h1,h2⟩;exact ⟨g,cp,cur,rfl,hB g rfl,h2⟩) :G:=h
theorem tV {G:Prop} (h:G:=by
  rw [List.getD_eq_getElem?_getD,List.getElem?_eq_getElem Zf];rfl) :G:=h
theorem Zbi {G:Prop} (h:G:=by
  go_wp2;go_ret;exact ⟨_,rfl,World.ownsRow_nil _ _ _ _,Below.refl _ _⟩) :G:=h
theorem Zbj {G:Prop} (h:G:=by
  rw [<-Na];exact ⟨ZD _ X4.o,ZD _ Y0.o⟩) :G:=h
theorem uh {G:Prop} (h:G:=by
  rw [hi] at h;simp at h;exact ⟨i,rfl,h.1,h.2.1,h.2.2⟩) :G:=h
theorem dR {G:Prop} (h:G:=by
  rw [List.getElem?_set_ne Ka];exact hj) :G:=h
theorem kX {G:Prop} (h:G:=by
  rcases hu with rfl | rfl | rfl <;> rfl) :G:=h
theorem lg {G:Prop} (h:G:=by
  rw [List.take_add_one,h];rfl) :G:=h
section
open Go Go.RowKit Go.Deep
theorem br (b m cap:Nat)(s:Zk)(c:Int->Int)(A T:Int)(v:ZN)(w:Zc)(h:JJ w b m s cap c A T)(hv:Yh v)(hl:VX v.st=true)
  (Rn:v.bal<=A) (hA:A<=18446744073709551615) (fC:v.bal<=T) (hT:T<=18446744073709551615) (OV:1<=c v.st) (M9:c v.st<=4096) :
  Dg Zb 220 #[.pointer (some ⟨b,0,none⟩),.agg (Zd v)] w fun e w'=>e= .returned (.tuple #[])/\JJ w' b m s cap (Oa c v.st (c v.st - 1)) (A - v.bal) (T - v.bal)/\Zx (fun i=>i=b\/i=m) w w':=by
 have HL:Zl (∀w,YV 103 #[.int .i64 v.st] w (.bool true)):=Za (fun w=>by have:=Lh v.st w; rwa [hl] at this);have hK:Zx (fun i=>i=b\/i=m) w (w.alloc (.cells (Zd v) 68)):=(ZM _ w).alloc _;have hE:Zu (w.alloc (.cells (Zd v) 68)) w.heap.size 68 (Zd v):=Zt _ _ _;have Ka: ¬w.heap.size=b:=by have:=h.1.lt; omega
 have HB:=Za (h.alloc (.cells (Zd v) 68));have x0:(w.alloc (.cells (Zd v) 68)).cell? ⟨w.heap.size,0,none⟩=some (.int .u64 v.bal):=hE.cell 0;have x1:(w.alloc (.cells (Zd v) 68)).cell? ⟨w.heap.size,1,none⟩=some (.int .i64 v.st):=hE.cell 1;obtain ⟨-,-,c2,c3,c4⟩:=HB.o.cells;have f3:=HB.o.1.frozen 3;have f4:=HB.o.1.frozen 4;have v0:=hv.bal.1;have HE:=Za hE;have HK:=Za hK;have HW:=Za hv.2;obtain ⟨cs,EY⟩:=ZT (c v.st);rw [EY] at OV M9 ⊢;have HCS:=Za EY;obtain ⟨n0,Hi⟩:=ZT (w.heap.size);have jR: ¬n0=b:=by rw [<-Hi]; exact Ka
 clear Ka;clear h hE hK hv hl EY;refine Zhh ?_;go_wp2;generalize w.alloc (.cells (Zd v) 68)=W at*;rw [Hi] at*;refine GL 9 ?_;refine GM ?_
 repeat (go_big_quiet_step (fail))
 refine XK ?_;intro _ Jq;obtain ⟨n1,Y9⟩:=Jq;subst Y9;go_wp2_with fail;refine (HL.o _).mono ?_;rintro e w2 ⟨rfl,rfl⟩;go_wp2_with fail;refine GL 9 ?_;refine GM ?_
 repeat (go_big_quiet_step (fail))
 refine XK ?_;intro _ Jq;obtain ⟨n2,Y9⟩:=Jq;subst Y9;go_wp2_with fail;have HR:=Za ((((HB.o.drewN n1).total (T - v.bal)).drewN n2).active (A - v.bal));have Pz:Zl (Zx (fun i=>i=b\/i=m) w ((((W.drewN n1).setCell ⟨b,4,none⟩ (.int .u64 (T - v.bal))).drewN n2).setCell ⟨b,3,none⟩ (.int .u64 (A - v.bal)))):=Za ((((HK.o.drewN n1).setCell (.inl (.inl rfl)) _).drewN n2).setCell (.inl (.inl rfl)) _);have y1:((((W.drewN n1).setCell ⟨b,4,none⟩ (.int .u64 (T - v.bal))).drewN n2).setCell ⟨b,3,none⟩ (.int .u64 (A - v.bal))).cell? ⟨n0,1,none⟩=some (.int .i64 v.st):=(Zu.far (Xq (Zu.far (Xq HE.o n1) jR _) n2) jR _).cell 1;generalize (((W.drewN n1).setCell ⟨b,4,none⟩ (.int .u64 (T - v.bal))).drewN n2).setCell ⟨b,3,none⟩ (.int .u64 (A - v.bal))=W2 at*;exact zT8
theorem bq (b m cap:Nat)(s:Zk)(c:Int->Int)(A T:Int)(v:ZN)(w:Zc)(h:JJ w b m s cap c A T)(hv:Yh v)(hl:VX v.st=false)
  (fC:v.bal<=T) (hT:T<=18446744073709551615) (OV:1<=c v.st) (M9:c v.st<=4096) :
  Dg Zb 220 #[.pointer (some ⟨b,0,none⟩),.agg (Zd v)] w fun e w'=>e= .returned (.tuple #[])/\JJ w' b m s cap (Oa c v.st (c v.st - 1)) A (T - v.bal)/\Zx (fun i=>i=b\/i=m) w w':=by
 have HL:Zl (∀w,YV 103 #[.int .i64 v.st] w (.bool false)):=Za (fun w=>by have:=Lh v.st w; rwa [hl] at this);have hK:Zx (fun i=>i=b\/i=m) w (w.alloc (.cells (Zd v) 68)):=(ZM _ w).alloc _;have hE:Zu (w.alloc (.cells (Zd v) 68)) w.heap.size 68 (Zd v):=Zt _ _ _;have Ka: ¬w.heap.size=b:=by have:=h.1.lt; omega
 have HB:=Za (h.alloc (.cells (Zd v) 68));have x0:(w.alloc (.cells (Zd v) 68)).cell? ⟨w.heap.size,0,none⟩=some (.int .u64 v.bal):=hE.cell 0;have x1:(w.alloc (.cells (Zd v) 68)).cell? ⟨w.heap.size,1,none⟩=some (.int .i64 v.st):=hE.cell 1;obtain ⟨-,-,c2,c3,c4⟩:=HB.o.cells;have f3:=HB.o.1.frozen 3;have f4:=HB.o.1.frozen 4;have v0:=hv.bal.1;have HE:=Za hE;have HK:=Za hK;have HW:=Za hv.2;obtain ⟨cs,EY⟩:=ZT (c v.st);rw [EY] at OV M9 ⊢;have HCS:=Za EY;obtain ⟨n0,Hi⟩:=ZT (w.heap.size);have jR: ¬n0=b:=by rw [<-Hi]; exact Ka
 clear Ka;clear h hE hK hv hl EY;refine Zhh ?_;go_wp2;generalize w.alloc (.cells (Zd v) 68)=W at*;rw [Hi] at*;refine GL 9 ?_;refine GM ?_
 repeat (go_big_quiet_step (fail))
 refine XK ?_;intro _ Jq;obtain ⟨n1,Y9⟩:=Jq;subst Y9;go_wp2_with fail;refine (HL.o _).mono ?_;rintro e w2 ⟨rfl,rfl⟩;go_wp2_with fail;have HR:=Za ((HB.o.drewN n1).total (T - v.bal));have Pz:Zl (Zx (fun i=>i=b\/i=m) w ((W.drewN n1).setCell ⟨b,4,none⟩ (.int .u64 (T - v.bal)))):=Za ((HK.o.drewN n1).setCell (.inl (.inl rfl)) _);have y1:((W.drewN n1).setCell ⟨b,4,none⟩ (.int .u64 (T - v.bal))).cell? ⟨n0,1,none⟩=some (.int .i64 v.st):=(Zu.far (Xq HE.o n1) jR _).cell 1;generalize (W.drewN n1).setCell ⟨b,4,none⟩ (.int .u64 (T - v.bal))=W2 at*;exact zT8
theorem bo (b m cap:Nat)(s:Zk)(c:Int->Int)(A T:Int)(v:ZN)(w:Zc)(h:JJ w b m s cap c A T)(hv:Yh v)
  (Rn:XB v<=A) (hA:A<=T) (fC:v.bal<=T) (hT:T<=18446744073709551615) (OV:1<=c v.st) (M9:c v.st<=4096) :
  Dg Zb 220 #[.pointer (some ⟨b,0,none⟩),.agg (Zd v)] w fun e w'=>e= .returned (.tuple #[])/\JJ w' b m s cap (Oa c v.st (c v.st - 1)) (A - XB v) (T - v.bal)/\Zx (fun i=>i=b\/i=m) w w':=by
 have v0:=hv.bal.1
 cases hl:VX v.st with
 | true=>
  have e:XB v=v.bal:=by simp [XB,hl]
  rw [e] at Rn ⊢;exact br b m cap s c A T v w h hv hl Rn Zf fC hT OV M9
 | false=>
  have e:A - XB v=A:=by simp [XB,hl]
  rw [e];exact bq b m cap s c A T v w h hv hl fC hT OV M9
end
section
open Go Go.RowKit Go.Deep
theorem tu:(Tryz.prog.info? 68).map (fun i=>(i.zero,i.size))=some (some (.agg (Zd ZS)),7):=ZC
section
variable {P:YL}
theorem MV (w:Zc)(T e:ZJ)(i:TypeInfo)(z:Zk)(v:ZN)(ht:P.underlying T=some (.slice e))(hi:P.info? e=some i)(hz:i.zero=some z)(hs:i.size=7) :
  (XD T 1 #[(0,.agg (Zd v))]).run P w= .ok (.slice (some ⟨w.heap.size,0,none⟩) 1 1) (w.alloc (.cells (Zd v) e)):=by
 simp [XD,run_underlying ht,sizeOf,typeInfo,hi,hs,zeroValue,hz,Instr.fill,newRow,Value.cells,Zd,ZN.row];simp [go_sem]
theorem Oi {o:Oper}{a:Act}{w:Zc}{K:Act->Zc->Prop}{Q:Exit->Act->Zc->Prop}(T e:ZJ)(x:YN)(z:Zk)(v:ZN)(ho:o.op= .buildSlice T 1 #[(0,x)])(hx:a.eval x= .agg (Zd v))(ht:P.underlying T=some (.slice e))(hI:(P.info? e).map (fun i=>(i.zero,i.size))=some (some z,7))
  (h:K (a.put o.dst (.slice (some ⟨w.heap.size,0,none⟩) 1 1)) (w.alloc (.cells (Zd v) e))) :o.wp P a w K Q:=by
 obtain ⟨i,hi,hz,hs⟩:=NL hI;unfold Jp XL;simp only [ho,JI,YY,KG,hx,Yr,MV w T e i z v ht hi hz hs,ZW,YU];exact h
end
theorem mS (w:Zc)(v:ZN)(t:ZJ) : ∀j u,v.row[j]?=some u->(w.alloc (.cells (Zd v) t)).cell? ((⟨w.heap.size,0,none⟩ :Addr).add j)=some u:=fun j u hu=>by
 rw [add_plain];have:=(Zt w t (Zd v)).range j u hu;exact this
theorem IL: ∃i,Tryz.prog.info? 68=some i/\i.zero=some (.agg (Zd ZS))/\i.size=7/\i.bytes=56:=by
 have h:(Tryz.prog.info? 68).map (fun i=>(i.zero,i.size,i.bytes))=some (some (.agg (Zd ZS)),7,56):=ZC
 cases hi:Tryz.prog.info? 68 with
 | none=>rw [hi] at h; cases h
 | some i=>
  exact uh
end
section
open Go Go.RowKit Go.Deep
theorem lv (b cap cp:Nat)(a:Option Addr)(v:ZN)(w:Zc)(h0:w.cell? ⟨b,0,none⟩=some (.int .i64 cap))(h1:w.cell? ⟨b,1,none⟩=some (.slice a cap cp)) :
  Z3 169 #[.pointer (some ⟨b,0,none⟩),.agg (Zd v)] w (.tuple #[.int .i64 (-1),.int .i64 5]):=by
 have x0:=ZD (.cells (Zd v) 68) h0;have x1:=ZD (.cells (Zd v) 68) h1;clear h0 h1;go_enter_defers func169,ntmps169;go_wp2;exact ⟨_,results_tmp2 rfl _ _ _,rfl,(Zo _ _).alloc (Zh _) _⟩
theorem lx (b cap cp n:Nat)(a:Option Addr)(T:Int)(v:ZN)(w:Zc)(h0:w.cell? ⟨b,0,none⟩=some (.int .i64 cap))(h1:w.cell? ⟨b,1,none⟩=some (.slice a n cp))(h4:w.cell? ⟨b,4,none⟩=some (.int .u64 T))
  (hn:n < cap) (hc:cap<=4096) (hv:Yh v) (fC:0<=T) (hT1:T<=18446744073709551615) (hT:18446744073709551615 < T+v.bal) :
  Z3 169 #[.pointer (some ⟨b,0,none⟩),.agg (Zd v)] w (.tuple #[.int .i64 (-1),.int .i64 10]):=by
 have x0:=ZD (.cells (Zd v) 68) h0;have x1:=ZD (.cells (Zd v) 68) h1;have x4:=ZD (.cells (Zd v) 68) h4;have hB:Zp w.heap.size w (w.alloc (.cells (Zd v) 68)):=(Zo _ _).alloc (Zh _) _;have y0:(w.alloc (.cells (Zd v) 68)).cell? ⟨w.heap.size,0,none⟩=some (.int .u64 v.bal):=(Zt w 68 (Zd v)).cell 0;obtain ⟨v0,v1⟩:=hv.bal;have hnc:((n:Int)==(cap:Int))=false:=Xl;have X4:=Za x4;have Y0:=Za y0;have HB:=Za hB;clear h0 h1 h4 x4 y0 hB hv;go_enter_defers func169,ntmps169;go_wp2;generalize w.alloc (.cells (Zd v) 68)=W at*;refine Mz (fun _=>True) 12 12 [] trivial ?_;refine XK ?_;refine Uk (fun w'=>w'.cell? ⟨b,4,none⟩=some (.int .u64 T)/\w'.cell? ⟨w.heap.size,0,none⟩=some (.int .u64 v.bal)) (m:=12) (f:=6) [0,1,2,3,4,5] (fun _ _=>trivial) ZC ⟨X4.o,Y0.o⟩ ?_;refine JL ?_;refine I2 ?_;refine DL ?_;refine Vk 23 _ (.int .u64 T) (fun w h=>h.1) ?_;refine X5 ?_;refine Gz ?_;refine Vk 23 _ (.int .u64 v.bal) (fun w h=>h.2) ?_;refine X5 ?_;refine XK ?_;refine Mo ?_;refine Yz rfl rfl (QE 121 23 (.tmp 26) (.tmp 28) _ _ (.int .u64 T) (.int .u64 v.bal) rfl rfl rfl underlying121 ET rfl rfl rfl ⟨⟨ZD _ X4.o,ZD _ Y0.o⟩,?_⟩);refine Jg (i:=7) ?_;refine Da ?_;refine JC #[.slice (some ⟨W.drew.heap.size,0,none⟩) 2 2] call101 ((R9 W.drew.heap.size T v.bal _ (Zt W.drew _ _) fC hT1 v0 v1 Zf).mono ?_);rintro e w2 ⟨rfl,Na⟩;have B2:Zp w.heap.size w w2:=Na▸HB.o.drew.alloc HB.o.size _;have S2:w2.cell? ⟨b,4,none⟩=some (.int .u64 T)/\w2.cell? ⟨w.heap.size,0,none⟩=some (.int .u64 v.bal):=Zbj
 refine ⟨_,rfl,S2,?_⟩;clear Na;refine Da ?_;refine SR (fun w'=>w'.cell? ⟨b,4,none⟩=some (.int .u64 T)/\w'.cell? ⟨w.heap.size,0,none⟩=some (.int .u64 v.bal)) (m:=4) (f:=0) [8,9,10,11] S2 ?_;refine JL ?_;refine He ?_;refine Bi ?_;refine XK ?_;refine GO ?_;refine ⟨by kernel_rfl,?_⟩;refine Mh ?_;go_wp2;refine Gy ?_;go_wp2;exact ⟨_,results_tmp2 rfl _ _ _,rfl,B2⟩
theorem vM (b cap m:Nat)(s:Zk)(l:List ZN)(v:ZN)(w:Zc)(h:JJ w b m s cap (Y8 l) (Ye l) (Zw l))(ho:w.ownsRow 0 68 7 s l.length (Xz l))
  (hn:l.length < cap) (hc:cap<=4096) (hf: ∀x ∈ l,Yh x) (hv:Yh v) (hT:Zw l+v.bal<=18446744073709551615) :
  Zv Zb 169 #[.pointer (some ⟨b,0,none⟩),.agg (Zd v)] w fun e w'=>e= .returned (.tuple #[.int .i64 l.length,.int .i64 0])/\ ∃s',JJ w' b m s' cap (Y8 (l++[v])) (Ye (l++[v])) (Zw (l++[v]))/\w'.ownsRow 0 68 7 s' (l.length+1) (Xz (l++[v]))/\
   (s'.ownBlock=s.ownBlock\/ ∃q,s'.ownBlock=some q/\w.heap.size<=q)/\Zx (fun i=>i=b\/i=m\/s.ownBlock=some i) w w':=by
 obtain ⟨a,cp,rfl,qV,qW⟩:=Um ho;obtain ⟨Rn,hA⟩:=GV hf;have fC:=Jz hf;have hcb:=Ux l v.st;obtain ⟨v0,v1⟩:=hv.bal;have HB:=Za (h.alloc (.cells (Zd v) 68));have HO:=Za (ho.alloc (.cells (Zd v) 68));have vv:Zl (∀i,(Yj a l.length cp).ownBlock=some i->i < w.heap.size):=Za (fun i hi=>(ho.lt i hi).2);have NC:=h.1.lt;have oO:=h.2.lt;have uR:Zl ((Yj a l.length cp).ownBlock≠some b/\(Yj a l.length cp).ownBlock≠some m):=Za (by
  rcases ho.2 with ⟨h1,_⟩ | ⟨g,GP,cur,h1,_,h3,_⟩
  ·rw [h1]; simp [Y7]
  ·rw [h1];simp only [Y7,ne_eq,QC];refine ⟨?_,?_⟩
   ·rintro rfl; exact Zio
   ·rintro rfl; obtain ⟨es,clock,h9,_⟩:=h.2; rw [h3] at h9; cases h9)
 have HE:Zl (Zu (w.alloc (.cells (Zd v) 68)) w.heap.size 68 (Zd v)):=Za (Zt _ _ _);have HK:Zl (Zx (fun i=>i=b\/i=m\/(Yj a l.length cp).ownBlock=some i) w (w.alloc (.cells (Zd v) 68))):=Za ((ZM _ w).alloc _);obtain ⟨x0,x1,x2,x3,x4⟩:=HB.o.cells;have X1:=Za x1;have X4:=Za x4;have Y0:=Za (HE.o.cell 0);have hnc:((l.length:Int)==(cap:Int))=false:=Xl;have HV:=Za hv;have NI:w.heap.size<=(w.alloc (.cells (Zd v) 68)).heap.size:=ZE;obtain ⟨n0,Hi⟩:=ZT (w.heap.size);rw [Hi] at NC oO NI vv HE Y0;clear h ho x2 x3 x4 hf hv;go_enter_defers func169,ntmps169;go_wp2;generalize w.alloc (.cells (Zd v) 68)=W at*;have hWn:n0 < W.heap.size:=HE.o.lt;obtain ⟨T,my⟩:=ZT (Zw l);rw [my] at X4 hT fC hA;refine Mz (fun _=>True) 12 12 [] trivial ?_;refine XK ?_;refine Uk (fun w'=>w'.cell? ⟨b,4,none⟩=some (.int .u64 T)/\w'.cell? ⟨n0,0,none⟩=some (.int .u64 v.bal)) (m:=12) (f:=6) [0,1,2,3,4,5] (fun _ _=>trivial) ZC ⟨X4.o,Y0.o⟩ ?_;refine JL ?_;refine I2 ?_;refine DL ?_;refine Vk 23 _ (.int .u64 T) (fun w h=>h.1) ?_;refine X5 ?_;refine Gz ?_;refine Vk 23 _ (.int .u64 v.bal) (fun w h=>h.2) ?_;refine X5 ?_;refine XK ?_;refine Mo ?_;refine Yz rfl rfl (QE 121 23 (.tmp 26) (.tmp 28) _ _ (.int .u64 T) (.int .u64 v.bal) rfl rfl rfl underlying121 ET rfl rfl rfl ⟨⟨ZD _ X4.o,ZD _ Y0.o⟩,?_⟩);refine Jg (i:=7) ?_;refine Da ?_;refine JC #[.slice (some ⟨W.drew.heap.size,0,none⟩) 2 2] call101 ((Sa W.drew.heap.size T v.bal _ (Zt W.drew _ _) fC v0 hT).mono ?_);rintro e w2 ⟨rfl,Na⟩;have S2:w2.cell? ⟨b,4,none⟩=some (.int .u64 T)/\w2.cell? ⟨n0,0,none⟩=some (.int .u64 v.bal):=Zbj
 refine ⟨_,rfl,S2,?_⟩;have H2:Zl (JJ w2 b m (.slice a l.length cp) cap (Y8 l) (Ye l) T/\w2.ownsRow 0 68 7 (.slice a l.length cp) l.length (Xz l)/\Zu w2 n0 68 (Zd v)/\Zx (fun i=>i=b\/i=m\/(Yj a l.length cp).ownBlock=some i) w w2/\W.heap.size<=w2.heap.size):=
  Za (Na▸⟨by rw [<-my]; exact (HB.o.drewN 1).alloc _,Qv (w:=W.drew) HO.o _,Yw (J3 HE.o) _,(HK.o.drew).alloc _,by simp⟩)
 clear Na HB HO HE HK X1 X4 Y0 x0 x1;refine Da ?_;refine SR (fun w'=>w'.cell? ⟨b,4,none⟩=some (.int .u64 T)/\w'.cell? ⟨n0,0,none⟩=some (.int .u64 v.bal)) (m:=4) (f:=0) [8,9,10,11] S2 ?_;refine JL ?_;refine He ?_;refine Bi ?_;refine XK ?_;refine GO ?_;refine ⟨by kernel_rfl,?_⟩;refine Mh ?_;go_wp2;refine Gy ?_;go_wp2_with (refine Xk rfl 68 _ rfl n0 0 rfl v _ H2.o.2.2.1.range underlying68 rfl Yb ?_);have S3:=H2.o.1.cells.2.1;have S4:=H2.o.2.2.1.range;have hle:w2.heap.size<=w2.drew.heap.size:=Zh _;refine Mz (fun _=>True) 10 10 [] trivial ?_;refine XK ?_;refine Uk (fun w'=>w'.cell? ⟨b,1,none⟩=some (.slice a l.length cp)/\w'.rangeAt n0 0 v.row) (m:=10) (f:=4) [0,1,2,3,4,5] (fun _ _=>trivial) ZC ⟨S3,S4⟩ ?_;refine JL ?_;refine I2 ?_;refine Bi ?_;refine Vk 22 _ (.slice a l.length cp) (fun w h=>h.1) ?_;refine X5 ?_;refine KU 68 (.tmp 3) n0 0 v _ rfl rfl rfl (fun w h=>h.2) underlying68 rfl Yb ?_;refine X5 ?_;refine XK ?_;refine Mo ?_;refine Yz rfl rfl (Oi 22 68 (.tmp 42) _ v rfl rfl underlying22 tu ⟨⟨ZD _ S3,fun j u hu=>ZD _ (S4 j u hu)⟩,?_⟩);refine Jg (i:=7) ?_;refine Da ?_;obtain ⟨i,hi,hz,xB,MG⟩:=IL;refine Yz rfl rfl (Eo _ (.tmp 41) (.tmp 43) 22 rfl 0 68 i _ 7 56 underlying22 hi hz xB MG (PF _) Zf (.slice a l.length cp) l.length (Xz l) rfl (Qv (w:=w2.drew) H2.o.2.1 _)
  (some ⟨w2.drew.heap.size,0,none⟩) 1 1 v.row rfl rfl (fun _=>⟨_,rfl,mS _ _ _⟩) (row_one v) GU Zf Zf ?_)
 intro s' w3 ho3 hg3 hs3;obtain ⟨a',GP,rfl,-,-⟩:=Um ho3;have H3:Zl (JJ w3 b m (.slice a l.length cp) cap (Y8 l) (Ye l) T/\w3.ownsRow 0 68 7 (.slice a' (l.length+1) GP) (l.length+1) (Xz (l++[v]))/\Zx (fun i=>i=b\/i=m\/(Yj a l.length cp).ownBlock=some i) w w3/\((Yj a' (l.length+1) GP).ownBlock=(Yj a l.length cp).ownBlock\/ ∃q,(Yj a' (l.length+1) GP).ownBlock=some q/\n0<=q)/\(Yj a' (l.length+1) GP).ownBlock≠some b/\(Yj a' (l.length+1) GP).ownBlock≠some m):=by
  have e1:JJ (w2.drew.alloc (.cells (Zd v) 68)) b m (.slice a l.length cp) cap (Y8 l) (Ye l) T:=(H2.o.1.drewN 1).alloc _;have k1:Zx (fun i=>i=b\/i=m\/(Yj a l.length cp).ownBlock=some i) w (w2.drew.alloc (.cells (Zd v) 68)):=(H2.o.2.2.2.1.drew).alloc _;have Bx:n0<=(w2.drew.alloc (.cells (Zd v) 68)).heap.size:=by have:=H2.o.2.2.2.2; simp; omega
  have Zc7:(Yj a' (l.length+1) GP).ownBlock=(Yj a l.length cp).ownBlock\/ ∃q,(Yj a' (l.length+1) GP).ownBlock=some q/\n0<=q:=hs3.imp id (fun h=>⟨_,h,Bx⟩);refine Za ⟨⟨e1.1.grown hg3 (Q0 uR.o.1),e1.2.grown hg3 (Q0 uR.o.2)⟩,by rw [Hw,qu]; exact ho3,k1.trans (Zx.of_grown (S:=fun i=>some i=(Yj a l.length cp).ownBlock) hg3 (fun i hi=>hi)) (fun i _ e=> .inr (.inr e.symm)),Zc7,?_,?_⟩
  ·rcases Zc7 with h | ⟨q,h,hq⟩<;> rw [h]
   ·exact uR.o.1
   ·intro e; injection e; omega
  ·rcases Zc7 with h | ⟨q,h,hq⟩<;> rw [h]
   ·exact uR.o.2
   ·intro e; injection e; omega
 have S5:=H3.o.1.cells.2.1;have S6:w3.rangeAt n0 0 v.row:=fun j u hu=>hg3.cell (ZD _ (S4 j u hu)) (by intro e; have:=vv.o n0 e.symm; omega)
 refine ⟨⟨S5,S6⟩,?_⟩;clear ho3 hg3 hs3;refine Da ?_;refine SR (fun w'=>w'.cell? ⟨b,1,none⟩=some (.slice a l.length cp)/\w'.rangeAt n0 0 v.row) (m:=2) (f:=0) [8,9] ⟨S5,S6⟩ ?_;refine JL ?_;show ZZ _ _ _ _ [_,_] _;refine B9 ?_;refine XK ?_;refine GO ?_;refine ⟨by kernel_rfl,?_⟩;refine Mh ?_;have Z1:=H3.o.1.1.frozen 1;have HI:=Za (PN b m cap (.slice a' (l.length+1) GP) (Y8 l) (Ye l) T v (w3.setCell ⟨b,1,none⟩ (.slice a' (l.length+1) GP)) (H3.o.1.list _) HV.o Rn hA hT hcb.1 Zf);clear S2 S3 S4 S6 H2 hi hz xB MG;go_wp2;refine Gy ?_;go_wp2;refine leaves_cons (f:=214) (args:= #[.pointer (some ⟨b,0,none⟩),.agg (Zd v)]) ZE (by simp [go_sem]) ?_;refine (HI.o.2 _).mono ?_;rintro e u' w4 ⟨rfl,rfl,hr4,hk4⟩;refine ⟨_,results_tmp2 rfl _ _ _,rfl,.slice a' (l.length+1) GP,?_,?_,?_,?_⟩
 ·have e1:Ye (l++[v])=Ye l+XB v:=by rw [D9]; simp [Ye]
  have e2:Zw (l++[v])=T+v.bal:=by rw [UF,my]; simp [Zw]
  rw [e1,e2];refine ⟨hr4.1,hr4.2.congr (fun q=>?_)⟩;rw [BP];simp only [Oa,Y8]
  by_cases hq:q=v.st
  ·subst hq; simp
  ·rw [if_neg hq,if_neg (fun e=>hq e.symm)]; omega
 ·refine KE H3.o.2.1 (fun i hi=>?_);have h1:i≠b:=by rintro rfl; exact H3.o.2.2.2.2.1 hi
  have h2:i≠m:=by rintro rfl; exact H3.o.2.2.2.2.2 hi
  have h3:=(H3.o.2.1.lt i hi).2;rw [hk4.block i (by simpa [World.setCell] using h3) (by rintro (h | h); exact h1 h; exact h2 h)];exact Below.heap_setCell _ _ _ _ h1
 ·rw [Hi];exact H3.o.2.2.2.1
 ·exact (H3.o.2.2.1.setCell (.inl (.inl rfl)) _).trans hk4 (fun i _ hi=>hi.elim .inl (fun h=> .inr (.inl h)))
theorem o9 (b cap:Nat)(S:Nat->Prop)(l:List ZN)(v:ZN)(w:Zc)(h:EW w b S cap l)(hv:Yh v) :
  Zv Zb 169 #[.pointer (some ⟨b,0,none⟩),.agg (Zd v)] w fun e w'=>
   (l.length=cap/\e= .returned (.tuple #[.int .i64 (-1),.int .i64 5])/\Zp w.heap.size w w')\/
   (l.length < cap/\18446744073709551615 < Zw l+v.bal/\e= .returned (.tuple #[.int .i64 (-1),.int .i64 10])/\Zp w.heap.size w w')\/
   (l.length < cap/\Zw l+v.bal<=18446744073709551615/\e= .returned (.tuple #[.int .i64 l.length,.int .i64 0])/\ ∃S',EW w' b S' cap (l++[v])/\(∀i,S' i->S i\/w.heap.size<=i)/\Zx S w w'):=by
 obtain ⟨m,s,h1,h2,h3,h4,h5,h6,h7,hS⟩:=h;obtain ⟨a,cp,rfl,_,_⟩:=Um h2;obtain ⟨x0,x1,x2,x3,x4⟩:=h1.cells
 by_cases hc:l.length=cap
 ·rw [hc] at x1;exact (lv b cap cp a v w x0 x1).mono fun e w' ⟨he,hb⟩=> .inl ⟨hc,he,hb⟩
 ·by_cases ht:Zw l+v.bal<=18446744073709551615
  ·refine (vM b cap m _ l v w h1 h2 Zf h4 h7 hv ht).mono fun e w' ⟨he,s',r1,r2,r3,r4⟩=> .inr (.inr ⟨by omega,ht,he,fun i=>i=b\/i=m\/s'.ownBlock=some i,⟨m,s',r1,by simpa using r2,h3,h4,by simp; omega,?_,?_,fun i=>Iff.rfl⟩,?_,?_⟩)
   ·rw [UF]; simp [Zw]; omega
   ·intro x hx
    rcases List.mem_append.1 hx with hx | hx
    ·exact h7 x hx
    ·obtain rfl:=List.mem_singleton.1 hx;exact hv
   ·rintro i (rfl | rfl | hi)
    ·exact .inl ((hS _).2 (.inl rfl))
    ·exact .inl ((hS _).2 (.inr (.inl rfl)))
    ·rcases r3 with r3 | ⟨q,r3,hq⟩
     ·exact .inl ((hS i).2 (.inr (.inr (by rw [<-r3]; exact hi))))
     ·rw [r3] at hi;injection hi with hi;exact .inr Zf
   ·exact r4.more (fun i _ hi=>(hS i).2 hi)
  ·exact (lx b cap cp l.length a (Zw l) v w x0 x1 x4 Zf h4 hv (Jz h7) h6 Zf).mono fun e w' ⟨he,hb⟩=> .inr (.inl ⟨by omega,by omega,he,hb⟩)
end
section
open Go Go.RowKit Go.Deep
section
variable {w a:Zc} {g t:Nat} {S:Nat->Prop}
theorem GF: ∀(vs X Y Z:List Zk) (w:Zc),Y.length=vs.length->Zu w g t (X++Y++Z).toArray->Zu (w.setCells g X.length vs) g t (X++vs++Z).toArray
 | [],X,Y,Z,w,hl,h=>by
  obtain rfl:=ZR hl;exact h
 | v::vs,X,[],Z,w,hl,h=>by simp at hl
 | v::vs,X,y::Y,Z,w,hl,h=>by
  have h1:=h.set_ X.length v;have e:((X++(y::Y)++Z).toArray).setIfInBounds X.length v=((X++[v])++Y++Z).toArray:=by
   simp [List.set_append]
  rw [e] at h1;have:=GF vs (X++[v]) Y Z _ IZ h1;simpa [World.setCells] using this
theorem Zx.setCells (vs:List Zk) : ∀(o:Nat) (w:Zc),Zx S a w->S g\/a.heap.size<=g->Zx S a (w.setCells g o vs):=by
 induction vs with
 | nil=>exact fun o w h _=>h
 | cons v vs ih=>exact fun o w h hg=>ih (o+1) _ (h.setCell hg v) hg
theorem NS {l:List ZN}{i cp:Nat}{old:ZN}(h:w.ownsRow 0 68 7 (.slice (some ⟨g,0,none⟩) l.length cp) l.length (Xz l))(hi:l[i]?=some old)(v:ZN) :
  (w.setCells g (i*7) v.row).ownsRow 0 68 7 (.slice (some ⟨g,0,none⟩) l.length cp) l.length (Xz (l.set i v))/\w.there g (i*7) 7:=by
 have Fo:=(Zj.1 hi).1
 rcases h.2 with ⟨h1,_⟩ | ⟨g',GP,cur,h1,h2,h3,h4,h5,h6,h7⟩
 ·cases h1
 ·injection h1 with h1 _ qV;injection h1 with h1;injection h1 with h1;subst h1 qV;have el:l=l.take i++old::l.drop (i+1):=by
   have he:=(Zj.1 hi).2;rw [<-he,List.getElem_cons_drop,Qz]
  have es:l.set i v=l.take i++v::l.drop (i+1):=by rw [List.set_eq_take_append_cons_drop,if_pos Fo]
  have hX:(Xz (l.take i)).length=i*7:=by rw [Hy,Xr]; congr 1; omega
  have e1:Xz l=Xz (l.take i)++old.row++Xz (l.drop (i+1)):=by
   conv=>lhs; rw [el]
   rw [Hw];simp [Xz]
  have e2:Xz (l.set i v)=Xz (l.take i)++v.row++Xz (l.drop (i+1)):=by
   rw [es,Hw];simp [Xz]
  have e3:cur=(Xz (l.take i)++old.row++(Xz (l.drop (i+1))++cur.toList.drop (l.length*7))).toArray:=by
   rw [<-Qb,<-e1,<-h7,Qz]
  have hb:Zu w g 68 (Xz (l.take i)++old.row++(Xz (l.drop (i+1))++cur.toList.drop (l.length*7))).toArray:=by rw [<-e3]; exact h3
  have GN:=GF v.row (Xz (l.take i)) old.row _ w rfl hb;rw [hX] at GN;have Bx:((Xz (l.take i)++v.row++(Xz (l.drop (i+1))++cur.toList.drop (l.length*7))).toArray).size=cur.size:=by
   conv=>rhs; rw [e3]
   simp [N6]
  refine ⟨⟨by rw [Hy,Xj],.inr ⟨g,cp,_,rfl,h2,GN,h4,h5,Bx.trans h6,?_⟩⟩,fun j hj=>⟨?_,hb.frozen _⟩⟩
  ·rw [<-Qb,<-e2,List.toList_toArray,List.take_left' (by rw [Hy,Xj])]
  ·have hc:i*7+j < cur.size:=by
    rw [h6];have:l.length<=cp:=h4;have:(i+1)*7<=l.length*7:=XQ 7 Fo;have:l.length*7<=cp*7:=XQ 7 h4;omega
   have hb':Zu w g 68 cur:=h3;rw [hb'.cell,Array.getElem?_eq_getElem hc];rfl
end
theorem aO (b m cap pR pO pV:Nat)(s:Zk)(c:Int->Int)(A T:Int)(old v:ZN)(w:Zc)(h:JJ w b m s cap c A T)(hR:Zu w pR 83 #[.pointer (some ⟨b,0,none⟩)])(hO:Zu w pO 68 (Zd old))(hV:Zu w pV 68 (Zd v))
  (ho:Yh old) (hv:Yh v) (Rn:XB old<=A) (hA:A<=T) (z6:A - XB old<=T - old.bal) (fC:old.bal<=T) (hT1:T<=18446744073709551615) (hT:T - old.bal+v.bal<=18446744073709551615) (OV:1<=c old.st) (M9:c old.st<=4096) (hc2:0<=c v.st) (xf:c v.st<=4096) :
  Dg Zb 219 #[.pointer (some ⟨pR,0,none⟩),.pointer (some ⟨pO,0,none⟩),.pointer (some ⟨pV,0,none⟩)] w fun e w'=>e= .returned (.tuple #[])/\
   JJ w' b m s cap (Oa (Oa c old.st (c old.st - 1)) v.st (Oa c old.st (c old.st - 1) v.st+1)) (A - XB old+XB v) (T - old.bal+v.bal)/\Zx (fun i=>i=b\/i=m) w w':=by
 have Ka: ∀p t cs,Zu w p t cs->t≠146-> ¬(p=b\/p=m):=fun p t cs hp ht=>by
  rintro (rfl | rfl)
  ·exact Zu.ne_ hp h.1 ht rfl
  ·obtain ⟨es,clock,h9,_⟩:=h.2;unfold Zu at hp;rw [hp] at h9; cases h9
 have nR:=Ka pR _ _ hR YW;have nO:=Ka pO _ _ hO YW;have nV:=Ka pV _ _ hV YW;have cR:=QS hR 0;have HX:=Za (bo b m cap s c A T old w h ho Rn hA fC hT1 OV M9);have HRb:=Za hR;have HOb:=Za hO;have HVb:=Za hV;have HV:=Za hv;have l0:=Td hv.bal.1;have hq:0<=Oa c old.st (c old.st - 1) v.st/\Oa c old.st (c old.st - 1) v.st<=4096:=by
  unfold Oa
  split <;> omega
 clear h hR hO hV ho hv Ka;refine Fh func219 rfl ?_;simp only [ntmps219,List.size_toArray,Yc,List.length_nil,Nat.reduceAdd,Nat.reduceSub,Array.replicate_succ,Array.replicate_zero,List.push_toArray,List.append_toArray,List.nil_append,Yf];go_wp2_with (refine Xk rfl 68 _ rfl pO 0 rfl old _ HOb.o.range underlying68 rfl Yb ?_);refine HX.o.1.mono ?_;rintro e w1 ⟨rfl,rl,WH⟩;have HR1:=Za rl;have Nh:=Za WH;have HV1:=Za (HVb.o.kept WH nV);have cR1:w1.cell? ⟨pR,0,none⟩=some (.pointer (some ⟨b,0,none⟩)):=(HRb.o.kept WH nR).cell 0;have HI:=Za (PN b m cap s _ _ _ v w1 rl HV.o Zf z6 hT hq.1 hq.2);clear rl WH cR HX HVb HOb HRb;go_wp2_with (refine Xk rfl 68 _ rfl pV 0 rfl v _ HV1.o.range underlying68 rfl Yb ?_);refine HI.o.1.mono ?_;rintro e w2 ⟨rfl,NH,mC⟩;have HZ:=Za (And.intro NH (Nh.o.trans mC (fun _ _ h=>h)));clear NH mC;go_wp2;go_end0;exact ⟨rfl,HZ.o⟩
end
section
open Go Go.RowKit Go.Deep
theorem SI {a:Act}{dst:Option Tmp}{yt ty:ZJ}{x y:YN}{pos:String}{after:Array Edge}{guard:Option (Nat × Bool)}{w:Zc}{p q:ZN}{r:Bool}(hx:a.eval x= .agg (Zd p))(hy:a.eval y= .agg (Zd q))(hr:decide (p=q)=r) :
  (XL a.eval { dst,op:= .binOp .eql 68 x y yt,type:=ty,pos,after,guard}).run Zb w= .ok (.value (.bool r)) w:=by
 simp only [XL,hx,hy,Yr,run_eqGuard_agg w .eql _ x y _ _ Tryz.eqGuardType68,ZW,run_eql_struct,Zcr p q w,YU,hr]
theorem iB (b n cp:Nat)(a:Option Addr)(i:Int)(v:ZN)(w:Zc)(h1:w.cell? ⟨b,1,none⟩=some (.slice a n cp))(ho:i < 0\/n<=i) :
  Z3 175 #[.pointer (some ⟨b,0,none⟩),.int .i64 i,.agg (Zd v)] w (.int .i64 7):=by
 have HB:Zl (Zp w.heap.size w ((w.alloc (.cells #[.pointer (some ⟨b,0,none⟩)] 83)).alloc (.cells (Zd v) 68))):=Za (((Zo _ _).alloc (Zh _) _).alloc ZE _);have H:=Za (jM b n cp a i ((w.alloc (.cells #[.pointer (some ⟨b,0,none⟩)] 83)).alloc (.cells (Zd v) 68)) (ZD _ (ZD _ h1)) ho);clear h1 ho;go_enter_defers func175,ntmps175;go_wp2_with fail;refine H.o.mono ?_;rintro e w1 ⟨rfl,rfl⟩;go_wp2;exact ⟨_,results_tmp rfl _ _ _,rfl,HB.o⟩
theorem Pc (b cap m n cp g i:Nat)(l:List ZN)(old v:ZN)(w:Zc)(h:JJ w b m (.slice (some ⟨g,0,none⟩) l.length cp) cap (Y8 l) (Ye l) (Zw l))(ho:w.ownsRow 0 68 7 (.slice (some ⟨g,0,none⟩) l.length cp) l.length (Xz l))(hi:l[i]?=some old) :i < l.length/\w.rangeAt g (i*7) old.row/\g≠b/\g≠m:=by
 refine ⟨(Zj.1 hi).1,?_,?_,?_⟩
 ·have:=My (w:=w) (b:=g) (off:=0) (l:=l) (fun j u hu=>by
   have:=ho.cells rfl j u hu;rwa [add_plain] at this) hi
  rwa [Nat.zero_add] at this
 ·rintro rfl
  rcases ho.2 with ⟨h1,_⟩ | ⟨g',GP,cur,h1,_,h3,_⟩
  ·cases h1
  ·injection h1 with h1 _ _; injection h1 with h1; injection h1 with h1; subst h1;exact Zio
 ·rintro rfl
  rcases ho.2 with ⟨h1,_⟩ | ⟨g',GP,cur,h1,_,h3,_⟩
  ·cases h1
  ·injection h1 with h1 _ _; injection h1 with h1; injection h1 with h1; subst h1;obtain ⟨es,clock,h9,_⟩:=h.2; rw [h3] at h9; cases h9
theorem nU (b cap m cp g i:Nat)(l:List ZN)(v:ZN)(w:Zc)(h:JJ w b m (.slice (some ⟨g,0,none⟩) l.length cp) cap (Y8 l) (Ye l) (Zw l))(ho:w.ownsRow 0 68 7 (.slice (some ⟨g,0,none⟩) l.length cp) l.length (Xz l))(hi:l[i]?=some v) :
  Z3 175 #[.pointer (some ⟨b,0,none⟩),.int .i64 i,.agg (Zd v)] w (.int .i64 0):=by
 obtain ⟨Fo,hr,-,-⟩:=Pc b cap m l.length cp g i l v v w h ho hi;have HB:Zl (Zp w.heap.size w ((w.alloc (.cells #[.pointer (some ⟨b,0,none⟩)] 83)).alloc (.cells (Zd v) 68))):=Za (((Zo _ _).alloc (Zh _) _).alloc ZE _);have x1:=ZD (.cells (Zd v) 68) (ZD (.cells #[.pointer (some ⟨b,0,none⟩)] 83) h.cells.2.1);have HR:Zl (((w.alloc (.cells #[.pointer (some ⟨b,0,none⟩)] 83)).alloc (.cells (Zd v) 68)).rangeAt g (i*7) v.row):=Za (fun j u hu=>ZD _ (ZD _ (hr j u hu)));have H:=Za (CN b l.length cp i _ ((w.alloc (.cells #[.pointer (some ⟨b,0,none⟩)] 83)).alloc (.cells (Zd v) 68)) x1 Fo);have HE:Zl (Zu ((w.alloc (.cells #[.pointer (some ⟨b,0,none⟩)] 83)).alloc (.cells (Zd v) 68)) (w.heap.size+1) 68 (Zd v)):=Za iV;have cR:((w.alloc (.cells #[.pointer (some ⟨b,0,none⟩)] 83)).alloc (.cells (Zd v) 68)).cell? ⟨w.heap.size,0,none⟩=some (.pointer (some ⟨b,0,none⟩)):=ZD _ ((Zt w _ _).cell 0);have hi1: ¬(i:Int)< 0:=Zf;have GQ: ¬(l.length:Int)<=(i:Int):=Zf;have hi3:(i:Int)< (l.length:Int):=Zf;clear h ho hi hr;go_enter_defers func175,ntmps175;go_wp2_with fail;generalize (w.alloc (.cells #[.pointer (some ⟨b,0,none⟩)] 83)).alloc (.cells (Zd v) 68)=W at*;refine H.o.mono ?_;rintro e w1 ⟨rfl,rfl⟩;have Hj:Zl (Zu (W.alloc (.cells (Zd v) 68)) (w.heap.size+1) 68 (Zd v)):=Za (HE.o.alloc _);have oW:Zl (Zu (W.alloc (.cells (Zd v) 68)) W.heap.size 68 (Zd v)):=Za (Zt _ _ _);go_wp2_with (first | (refine LO (.bool true) rfl (SI rfl rfl ZE) ?_) | (refine Xk rfl 68 _ rfl g (i*7) rfl v _ HR.o underlying68 rfl Yb ?_) | (refine UP W.heap.size (Zd v) 68 (ZA W _) Yb (Ys v) ?_; rw [Zr]) | (refine Xk rfl 68 _ rfl (w.heap.size+1) 0 rfl v _ Hj.o.range underlying68 rfl Yb ?_) | (refine Xk rfl 68 _ rfl W.heap.size 0 rfl v _ oW.o.range underlying68 rfl Yb ?_));exact ⟨_,results_tmp rfl _ _ _,rfl,HB.o.alloc HB.o.size _⟩
end
section
open Go Go.RowKit Go.Deep
theorem lT {l:List ZN}{i:Nat}{old:ZN}(h:l[i]?=some old)(v:ZN)(q:Int) :
  Oa (Oa (Y8 l) old.st (Y8 l old.st - 1)) v.st (Oa (Y8 l) old.st (Y8 l old.st - 1) v.st+1) q=Y8 (l.set i v) q:=by
 rw [Ag h];simp only [Oa]
 by_cases e1:old.st=q
 ·subst e1
  by_cases e2:old.st=v.st
  ·rw [<-e2]; simp
  ·have e3: ¬v.st=old.st:=fun e=>e2 e.symm
   simp [e2,e3]
 ·have e4: ¬q=old.st:=fun e=>e1 e.symm
  by_cases e2:v.st=q
  ·subst e2;simp [e1,e4]
  ·have e3: ¬q=v.st:=fun e=>e2 e.symm
   simp [e1,e2,e3,e4]
theorem nT (b cap m cp g i:Nat)(l:List ZN)(old v:ZN)(w:Zc)(h:JJ w b m (.slice (some ⟨g,0,none⟩) l.length cp) cap (Y8 l) (Ye l) (Zw l))(ho:w.ownsRow 0 68 7 (.slice (some ⟨g,0,none⟩) l.length cp) l.length (Xz l))(hi:l[i]?=some old)
  (Ka:v≠old) (hl:l.length<=4096) (hf: ∀x ∈ l,Yh x) (hv:Yh v) (hT1:Zw l<=18446744073709551615) (hT:18446744073709551615 < Zw l - old.bal+v.bal) :
  Zv Zb 175 #[.pointer (some ⟨b,0,none⟩),.int .i64 i,.agg (Zd v)] w fun e w'=>e= .returned (.int .i64 10)/\Zx (fun i=>i=b\/i=m\/i=g) w w'/\JJ w' b m (.slice (some ⟨g,0,none⟩) l.length cp) cap (Y8 l) (Ye l) (Zw l)/\w'.ownsRow 0 68 7 (.slice (some ⟨g,0,none⟩) l.length cp) l.length (Xz l):=by
 obtain ⟨Fo,hr,hgb,hgm⟩:=Pc b cap m l.length cp g i l old v w h ho hi;have ⟨v0,v1⟩:=hv.bal;have hfo:=hf old (Zy hi);have ⟨o0,o1⟩:=hfo.bal;have hTo:old.bal<=Zw l/\XB old<=Ye l/\1<=Y8 l old.st/\Ye l - XB old<=Zw l - old.bal:=ZhA
 obtain ⟨Rn,hA⟩:=GV hf;have M9:=Ux l old.st;have hc2:=Ux l v.st;have x1:=ZD (.cells (Zd v) 68) (ZD (.cells #[.pointer (some ⟨b,0,none⟩)] 83) h.cells.2.1);have HR:Zl (((w.alloc (.cells #[.pointer (some ⟨b,0,none⟩)] 83)).alloc (.cells (Zd v) 68)).rangeAt g (i*7) old.row):=Za (fun j u hu=>ZD _ (ZD _ (hr j u hu)));have H:=Za (CN b l.length cp i _ ((w.alloc (.cells #[.pointer (some ⟨b,0,none⟩)] 83)).alloc (.cells (Zd v) 68)) x1 Fo);have HE:Zl (Zu ((w.alloc (.cells #[.pointer (some ⟨b,0,none⟩)] 83)).alloc (.cells (Zd v) 68)) (w.heap.size+1) 68 (Zd v)):=Za iV;have HP:Zl (Zu ((w.alloc (.cells #[.pointer (some ⟨b,0,none⟩)] 83)).alloc (.cells (Zd v) 68)) w.heap.size 83 #[.pointer (some ⟨b,0,none⟩)]):=Za (Yw (Zt w _ _) _);have cR:=HP.o.cell 0;have HG:=Za ((h.alloc (.cells #[.pointer (some ⟨b,0,none⟩)] 83)).alloc (.cells (Zd v) 68));have HO:=Za ((ho.alloc (.cells #[.pointer (some ⟨b,0,none⟩)] 83)).alloc (.cells (Zd v) 68));have HK:Zl (Zx (fun i=>i=b\/i=m\/i=g) w ((w.alloc (.cells #[.pointer (some ⟨b,0,none⟩)] 83)).alloc (.cells (Zd v) 68))):=Za (((ZM _ w).alloc _).alloc _);have hgl:g < w.heap.size:=(ho.lt g rfl).2;have NC:=h.1.lt;have oO:=h.2.lt;have Bx:((w.alloc (.cells #[.pointer (some ⟨b,0,none⟩)] 83)).alloc (.cells (Zd v) 68)).heap.size=w.heap.size+2:=ZE;have hi1: ¬(i:Int)< 0:=Zf;have GQ: ¬(l.length:Int)<=(i:Int):=Zf;have hi3:(i:Int)< (l.length:Int):=Zf;have HI:=Za hi;have uR:=Za Ka;have HFO:=Za hfo;have HV:=Za hv;obtain ⟨T,my⟩:=ZT (Zw l);obtain ⟨A,wS⟩:=ZT (Ye l);rw [my,wS] at hTo;rw [my] at hT hT1 hA HG;rw [wS] at Rn hA HG;have fC:0<=T:=Zf;have HTE:=Za my;have HAE:=Za wS;obtain ⟨n0,Hi⟩:=ZT (w.heap.size);have dY:=Za Hi;rw [Hi] at HE HP cR hgl NC oO Bx;have hob:=hTo.1;have ak:=Za Bx;clear Bx;clear h ho hi hr hf Ka hfo hv my wS;go_enter_defers func175,ntmps175;go_wp2_with fail;generalize ((w.alloc (.cells #[.pointer (some ⟨b,0,none⟩)] 83)).alloc (.cells (Zd v) 68))=W at*;refine H.o.mono ?_;rintro e w1 ⟨rfl,rfl⟩;have Hj:Zl (Zu (W.alloc (.cells (Zd old) 68)) (n0+1) 68 (Zd v)):=Za (HE.o.alloc _);have oW:Zl (Zu (W.alloc (.cells (Zd old) 68)) W.heap.size 68 (Zd old)):=Za (Zt _ _ _);go_wp2_with (first | (refine LO (.bool false) rfl (SI rfl rfl (by simp [uR.o])) ?_) | (refine Xk rfl 68 _ rfl g (i*7) rfl old _ HR.o underlying68 rfl Yb ?_) | (refine UP W.heap.size (Zd old) 68 (ZA W _) Yb (Ys old) ?_; rw [Zr]) | (refine Xk rfl 68 _ rfl (n0+1) 0 rfl v _ Hj.o.range underlying68 rfl Yb ?_) | (refine Xk rfl 68 _ rfl W.heap.size 0 rfl old _ oW.o.range underlying68 rfl Yb ?_));have zG:Zl (Zu (W.alloc (.cells (Zd old) 68)) n0 83 #[.pointer (some ⟨b,0,none⟩)]):=Za (HP.o.alloc _);have uQ:=Za (HG.o.alloc (.cells (Zd old) 68));have Ox:=Za (HO.o.alloc (.cells (Zd old) 68));have Pz:=Za (HK.o.alloc (.cells (Zd old) 68));have Zc9:(W.alloc (.cells (Zd old) 68)).heap.size=n0+3:=by have:=ak.o; simp; omega
 have S1:(W.alloc (.cells (Zd old) 68)).cell? ⟨n0,0,none⟩=some (.pointer (some ⟨b,0,none⟩))/\(W.alloc (.cells (Zd old) 68)).cell? ⟨b,4,none⟩=some (.int .u64 T)/\(W.alloc (.cells (Zd old) 68)).cell? ⟨n0+2,0,none⟩=some (.int .u64 old.bal)/\(W.alloc (.cells (Zd old) 68)).cell? ⟨n0+1,0,none⟩=some (.int .u64 v.bal):=
  ⟨zG.o.cell 0,uQ.o.cells.2.2.2.2,by rw [<-ak.o]; exact oW.o.cell 0,Hj.o.cell 0⟩
 have Oy:=Za S1;rw [ak.o] at oW;simp only [ak.o];clear HE HP HG HO HK cR x1 H HR S1;generalize W.alloc (.cells (Zd old) 68)=W2 at*;refine Mz (fun _=>True) 15 15 [] trivial ?_;refine XK ?_;refine Zhf ?_;refine JL ?_;refine oB ?_;refine Vk 83 _ (.pointer (some ⟨b,0,none⟩)) (fun w h=>h.1) ?_;refine X5 ?_;refine B9 ?_;refine Vk 23 _ (.int .u64 T) (fun w h=>h.2.1) ?_;refine X5 ?_;refine Gz ?_;refine Vk 23 _ (.int .u64 old.bal) (fun w h=>h.2.2.1) ?_;refine X5 ?_;refine B9 ?_;refine Vk 23 _ (.int .u64 v.bal) (fun w h=>h.2.2.2) ?_;refine X5 ?_;refine XK ?_;refine Jg (i:=9) ?_;refine Yz rfl rfl (QE 121 23 (.tmp 33) (.tmp 35) _ _ (.int .u64 (T - old.bal)) (.int .u64 v.bal) rfl rfl rfl underlying121 ET rfl rfl rfl ⟨⟨ZD _ Oy.o.1,ZD _ Oy.o.2.1,ZD _ Oy.o.2.2.1,ZD _ Oy.o.2.2.2⟩,?_⟩);refine Jg (i:=10) ?_;refine Da ?_;refine JC #[.slice (some ⟨W2.drew.heap.size,0,none⟩) 2 2] call101 ((R9 W2.drew.heap.size (T - old.bal) v.bal _ (Zt W2.drew _ _) Zf Zf v0 v1 Zf).mono ?_);rintro e w3 ⟨rfl,hw3⟩;have S3:w3.cell? ⟨n0,0,none⟩=some (.pointer (some ⟨b,0,none⟩))/\w3.cell? ⟨b,4,none⟩=some (.int .u64 T)/\w3.cell? ⟨n0+2,0,none⟩=some (.int .u64 old.bal)/\w3.cell? ⟨n0+1,0,none⟩=some (.int .u64 v.bal):=Zie
 refine ⟨_,rfl,S3,?_⟩;have HZ:Zl (Zx (fun i=>i=b\/i=m\/i=g) w w3/\JJ w3 b m (.slice (some ⟨g,0,none⟩) l.length cp) cap (Y8 l) A T/\w3.ownsRow 0 68 7 (.slice (some ⟨g,0,none⟩) l.length cp) l.length (Xz l)):=Za (hw3▸⟨Pz.o.drew.alloc _,(uQ.o.drewN 1).alloc _,Qv (w:=W2.drew) Ox.o _⟩);clear hw3;refine Da ?_;refine Zhg ?_;refine JL ?_;refine He ?_;refine Bi ?_;refine XK ?_;refine GO ?_;refine ⟨by kernel_rfl,?_⟩;refine Mh ?_;clear S3 Oy;go_wp2;refine Gy ?_;go_wp2;refine ⟨_,results_tmp rfl _ _ _,rfl,?_⟩;rw [HTE.o,HAE.o];exact HZ.o
theorem yL (b cap m cp g i:Nat)(l:List ZN)(old v:ZN)(w:Zc)(h:JJ w b m (.slice (some ⟨g,0,none⟩) l.length cp) cap (Y8 l) (Ye l) (Zw l))(ho:w.ownsRow 0 68 7 (.slice (some ⟨g,0,none⟩) l.length cp) l.length (Xz l))(hi:l[i]?=some old)
  (Ka:v≠old) (hl:l.length<=4096) (hf: ∀x ∈ l,Yh x) (hv:Yh v) (hT1:Zw l<=18446744073709551615) (hT:Zw l - old.bal+v.bal<=18446744073709551615) :
  Zv Zb 175 #[.pointer (some ⟨b,0,none⟩),.int .i64 i,.agg (Zd v)] w fun e w'=>e= .returned (.int .i64 0)/\Zx (fun i=>i=b\/i=m\/i=g) w w'/\JJ w' b m (.slice (some ⟨g,0,none⟩) l.length cp) cap (Y8 (l.set i v)) (Ye (l.set i v)) (Zw (l.set i v))/\w'.ownsRow 0 68 7 (.slice (some ⟨g,0,none⟩) l.length cp) l.length (Xz (l.set i v)):=by
 obtain ⟨Fo,hr,hgb,hgm⟩:=Pc b cap m l.length cp g i l old v w h ho hi;have ⟨v0,v1⟩:=hv.bal;have hfo:=hf old (Zy hi);have ⟨o0,o1⟩:=hfo.bal;have hTo:old.bal<=Zw l/\XB old<=Ye l/\1<=Y8 l old.st/\Ye l - XB old<=Zw l - old.bal:=ZhA
 obtain ⟨Rn,hA⟩:=GV hf;have M9:=Ux l old.st;have hc2:=Ux l v.st;have x1:=ZD (.cells (Zd v) 68) (ZD (.cells #[.pointer (some ⟨b,0,none⟩)] 83) h.cells.2.1);have HR:Zl (((w.alloc (.cells #[.pointer (some ⟨b,0,none⟩)] 83)).alloc (.cells (Zd v) 68)).rangeAt g (i*7) old.row):=Za (fun j u hu=>ZD _ (ZD _ (hr j u hu)));have H:=Za (CN b l.length cp i _ ((w.alloc (.cells #[.pointer (some ⟨b,0,none⟩)] 83)).alloc (.cells (Zd v) 68)) x1 Fo);have HE:Zl (Zu ((w.alloc (.cells #[.pointer (some ⟨b,0,none⟩)] 83)).alloc (.cells (Zd v) 68)) (w.heap.size+1) 68 (Zd v)):=Za iV;have HP:Zl (Zu ((w.alloc (.cells #[.pointer (some ⟨b,0,none⟩)] 83)).alloc (.cells (Zd v) 68)) w.heap.size 83 #[.pointer (some ⟨b,0,none⟩)]):=Za (Yw (Zt w _ _) _);have cR:=HP.o.cell 0;have HG:=Za ((h.alloc (.cells #[.pointer (some ⟨b,0,none⟩)] 83)).alloc (.cells (Zd v) 68));have HO:=Za ((ho.alloc (.cells #[.pointer (some ⟨b,0,none⟩)] 83)).alloc (.cells (Zd v) 68));have HK:Zl (Zx (fun i=>i=b\/i=m\/i=g) w ((w.alloc (.cells #[.pointer (some ⟨b,0,none⟩)] 83)).alloc (.cells (Zd v) 68))):=Za (((ZM _ w).alloc _).alloc _);have hgl:g < w.heap.size:=(ho.lt g rfl).2;have NC:=h.1.lt;have oO:=h.2.lt;have Bx:((w.alloc (.cells #[.pointer (some ⟨b,0,none⟩)] 83)).alloc (.cells (Zd v) 68)).heap.size=w.heap.size+2:=ZE;have hi1: ¬(i:Int)< 0:=Zf;have GQ: ¬(l.length:Int)<=(i:Int):=Zf;have hi3:(i:Int)< (l.length:Int):=Zf;have HI:=Za hi;have uR:=Za Ka;have HFO:=Za hfo;have HV:=Za hv;obtain ⟨T,my⟩:=ZT (Zw l);obtain ⟨A,wS⟩:=ZT (Ye l);rw [my,wS] at hTo;rw [my] at hT hT1 hA HG;rw [wS] at Rn hA HG;have fC:0<=T:=Zf;have HTE:=Za my;have HAE:=Za wS;obtain ⟨n0,Hi⟩:=ZT (w.heap.size);have dY:=Za Hi;rw [Hi] at HE HP cR hgl NC oO Bx;have hob:=hTo.1;have ak:=Za Bx;clear Bx;clear h ho hi hr hf Ka hfo hv my wS;go_enter_defers func175,ntmps175;go_wp2_with fail;generalize ((w.alloc (.cells #[.pointer (some ⟨b,0,none⟩)] 83)).alloc (.cells (Zd v) 68))=W at*;refine H.o.mono ?_;rintro e w1 ⟨rfl,rfl⟩;have Hj:Zl (Zu (W.alloc (.cells (Zd old) 68)) (n0+1) 68 (Zd v)):=Za (HE.o.alloc _);have oW:Zl (Zu (W.alloc (.cells (Zd old) 68)) W.heap.size 68 (Zd old)):=Za (Zt _ _ _);go_wp2_with (first | (refine LO (.bool false) rfl (SI rfl rfl (by simp [uR.o])) ?_) | (refine Xk rfl 68 _ rfl g (i*7) rfl old _ HR.o underlying68 rfl Yb ?_) | (refine UP W.heap.size (Zd old) 68 (ZA W _) Yb (Ys old) ?_; rw [Zr]) | (refine Xk rfl 68 _ rfl (n0+1) 0 rfl v _ Hj.o.range underlying68 rfl Yb ?_) | (refine Xk rfl 68 _ rfl W.heap.size 0 rfl old _ oW.o.range underlying68 rfl Yb ?_));have zG:Zl (Zu (W.alloc (.cells (Zd old) 68)) n0 83 #[.pointer (some ⟨b,0,none⟩)]):=Za (HP.o.alloc _);have uQ:=Za (HG.o.alloc (.cells (Zd old) 68));have Ox:=Za (HO.o.alloc (.cells (Zd old) 68));have Pz:=Za (HK.o.alloc (.cells (Zd old) 68));have Zc9:(W.alloc (.cells (Zd old) 68)).heap.size=n0+3:=by have:=ak.o; simp; omega
 have S1:(W.alloc (.cells (Zd old) 68)).cell? ⟨n0,0,none⟩=some (.pointer (some ⟨b,0,none⟩))/\(W.alloc (.cells (Zd old) 68)).cell? ⟨b,4,none⟩=some (.int .u64 T)/\(W.alloc (.cells (Zd old) 68)).cell? ⟨n0+2,0,none⟩=some (.int .u64 old.bal)/\(W.alloc (.cells (Zd old) 68)).cell? ⟨n0+1,0,none⟩=some (.int .u64 v.bal):=
  ⟨zG.o.cell 0,uQ.o.cells.2.2.2.2,by rw [<-ak.o]; exact oW.o.cell 0,Hj.o.cell 0⟩
 have Oy:=Za S1;rw [ak.o] at oW;simp only [ak.o];clear HE HP HG HO HK cR x1 H HR S1;generalize W.alloc (.cells (Zd old) 68)=W2 at*;refine Mz (fun _=>True) 15 15 [] trivial ?_;refine XK ?_;refine Zhf ?_;refine JL ?_;refine oB ?_;refine Vk 83 _ (.pointer (some ⟨b,0,none⟩)) (fun w h=>h.1) ?_;refine X5 ?_;refine B9 ?_;refine Vk 23 _ (.int .u64 T) (fun w h=>h.2.1) ?_;refine X5 ?_;refine Gz ?_;refine Vk 23 _ (.int .u64 old.bal) (fun w h=>h.2.2.1) ?_;refine X5 ?_;refine B9 ?_;refine Vk 23 _ (.int .u64 v.bal) (fun w h=>h.2.2.2) ?_;refine X5 ?_;refine XK ?_;refine Jg (i:=9) ?_;refine Yz rfl rfl (QE 121 23 (.tmp 33) (.tmp 35) _ _ (.int .u64 (T - old.bal)) (.int .u64 v.bal) rfl rfl rfl underlying121 ET rfl rfl rfl ⟨⟨ZD _ Oy.o.1,ZD _ Oy.o.2.1,ZD _ Oy.o.2.2.1,ZD _ Oy.o.2.2.2⟩,?_⟩);refine Jg (i:=10) ?_;refine Da ?_;refine JC #[.slice (some ⟨W2.drew.heap.size,0,none⟩) 2 2] call101 ((Sa W2.drew.heap.size (T - old.bal) v.bal _ (Zt W2.drew _ _) Zf v0 hT).mono ?_);rintro e w3 ⟨rfl,hw3⟩;have S3:w3.cell? ⟨n0,0,none⟩=some (.pointer (some ⟨b,0,none⟩))/\w3.cell? ⟨b,4,none⟩=some (.int .u64 T)/\w3.cell? ⟨n0+2,0,none⟩=some (.int .u64 old.bal)/\w3.cell? ⟨n0+1,0,none⟩=some (.int .u64 v.bal):=Zie
 refine ⟨_,rfl,S3,?_⟩;have HZ:Zl (Zx (fun i=>i=b\/i=m\/i=g) w w3/\JJ w3 b m (.slice (some ⟨g,0,none⟩) l.length cp) cap (Y8 l) A T/\w3.ownsRow 0 68 7 (.slice (some ⟨g,0,none⟩) l.length cp) l.length (Xz l)/\Zu w3 n0 83 #[.pointer (some ⟨b,0,none⟩)]/\Zu w3 (n0+1) 68 (Zd v)/\Zu w3 (n0+2) 68 (Zd old)):=
  Za (hw3▸⟨Pz.o.drew.alloc _,(uQ.o.drewN 1).alloc _,Qv (w:=W2.drew) Ox.o _,Yw (J3 zG.o) _,Yw (J3 Hj.o) _,Yw (J3 oW.o) _⟩)
 clear Pz uQ Ox zG Hj oW;clear hw3;refine Da ?_;refine Zhg ?_;refine JL ?_;refine He ?_;refine Bi ?_;refine XK ?_;refine GO ?_;refine ⟨by kernel_rfl,?_⟩;refine Mh ?_;clear S3 Oy;have CQ: ∀(fn:Fn) (first cap:Array Zk) (w:Zc),(Instr.makeFunc fn first cap).run Zb w= .ok (.func fn first cap) w:=fun _ _ _ _=>rfl
 go_wp2;refine Gy ?_;go_wp2;clear CQ;have d0:=HZ.o.2.2.2.1.cell 0;have d1:=HZ.o.2.1.cells.2.1;refine GL 7 ?_;refine GM ?_;iterate 5 (go_big_quiet_step (fail))
 refine KU 68 (.tmp 5) (n0+1) 0 v _ rfl rfl rfl (fun w h=>by obtain ⟨n,rfl⟩:=h; exact (Xq HZ.o.2.2.2.2.1 n).range) underlying68 rfl Yb ?_;refine X5 ?_
 repeat (go_big_quiet_step (fail))
 refine XK ?_;intro _ Jq;obtain ⟨n1,Y9⟩:=Jq;subst Y9;obtain ⟨hos,hth⟩:=NS (w:=w3.drewN n1) HZ.o.2.2.1 HI.o v;have hos:=Za hos;refine wpList_store_mid rfl 68 _ _ rfl g (i*7) (Zd v) rfl rfl hth Yb (Ys v) ?_;have xl:Zx (fun i=>i=g) (w3.drewN n1) ((w3.drewN n1).setCells g (i*7) (Zd v).toList):=Zx.setCells _ _ _ (ZM _ _) (.inl rfl);have H5:Zl (JJ ((w3.drewN n1).setCells g (i*7) (Zd v).toList) b m (.slice (some ⟨g,0,none⟩) l.length cp) cap (Y8 l) A T/\((w3.drewN n1).setCells g (i*7) (Zd v).toList).ownsRow 0 68 7 (.slice (some ⟨g,0,none⟩) l.length cp) l.length (Xz (l.set i v))/\Zx (fun i=>i=b\/i=m\/i=g) w ((w3.drewN n1).setCells g (i*7) (Zd v).toList)/\
   Zu ((w3.drewN n1).setCells g (i*7) (Zd v).toList) n0 83 #[.pointer (some ⟨b,0,none⟩)]/\Zu ((w3.drewN n1).setCells g (i*7) (Zd v).toList) (n0+1) 68 (Zd v)/\Zu ((w3.drewN n1).setCells g (i*7) (Zd v).toList) (n0+2) 68 (Zd old)):=
  Za ⟨(HZ.o.2.1.drewN n1).same (xl.block b (HZ.o.2.1.1.lt) (fun e=>hgb e.symm)) (xl.block m (HZ.o.2.1.2.lt) (fun e=>hgm e.symm)),hos.o,(HZ.o.1.drewN n1).trans xl (fun _ _ e=> .inr (.inr e)),
   (Xq HZ.o.2.2.2.1 n1).kept xl Zf,(Xq HZ.o.2.2.2.2.1 n1).kept xl Zf,(Xq HZ.o.2.2.2.2.2 n1).kept xl Zf⟩
 clear xl hth d0 d1;generalize (w3.drewN n1).setCells g (i*7) (Zd v).toList=W5 at*;have HC:=Za (aO b m cap n0 (n0+2) (n0+1) _ (Y8 l) A T old v W5 H5.o.1 H5.o.2.2.2.1 H5.o.2.2.2.2.2 H5.o.2.2.2.2.1 HFO.o HV.o hTo.2.1 hA hTo.2.2.2 hob hT1 hT hTo.2.2.1 Zf hc2.1 Zf);have HOS:=Za H5.o.2.1;go_wp2;refine leaves_cons (f:=219) (args:= #[.pointer (some ⟨n0,0,none⟩),.pointer (some ⟨n0+2,0,none⟩),.pointer (some ⟨n0+1,0,none⟩)]) ZE (by simp [go_sem]) ?_;refine (HC.o.2 _).mono ?_;rintro e u' w6 ⟨rfl,rfl,hr6,hk6⟩;refine ⟨_,results_tmp rfl _ _ _,rfl,H5.o.2.2.1.trans hk6 (fun _ _ h=>h.elim .inl (fun h=> .inr (.inl h))),?_,?_⟩
 ·have e1:Ye (l.set i v)=A - XB old+XB v:=by rw [Fc HI.o,HAE.o]
  have e2:Zw (l.set i v)=T - old.bal+v.bal:=by rw [JK HI.o,HTE.o]
  rw [e1,e2];exact ⟨hr6.1,hr6.2.congr (fun q=>lT HI.o v q)⟩
 ·exact KE H5.o.2.1 (fun j hj=>by
   injection hj with hj;subst hj;exact hk6.block _ ((H5.o.2.1.lt _ rfl).2) (by rintro (h | h); exact hgb h; exact hgm h))
theorem sV (b cap:Nat)(S:Nat->Prop)(i:Int)(l:List ZN)(v:ZN)(w:Zc)(h:EW w b S cap l)(hv:Yh v) :
  Zv Zb 175 #[.pointer (some ⟨b,0,none⟩),.int .i64 i,.agg (Zd v)] w fun e w'=>
   ((i < 0\/l.length<=i)/\e= .returned (.int .i64 7)/\EW w' b S cap l/\Zx S w w')\/
   ∃(k:Nat) (old:ZN),i=k/\l[k]?=some old/\((Zw l - old.bal+v.bal<=18446744073709551615/\e= .returned (.int .i64 0)/\EW w' b S cap (l.set k v)/\Zx S w w')\/(18446744073709551615 < Zw l - old.bal+v.bal/\e= .returned (.int .i64 10)/\EW w' b S cap l/\Zx S w w')):=by
 have ZgJ:=h;obtain ⟨m,s,h1,h2,h3,h4,h5,h6,h7,hS⟩:=h;obtain ⟨a,cp,rfl,_,_⟩:=Um h2
 by_cases ho:i < 0\/(l.length:Int)<=i
 ·exact (iB b l.length cp a i v w h1.cells.2.1 ho).mono fun e w' ⟨he,hb⟩=> .inl ⟨ho,he,ZgJ.below hb,YR hb⟩
 ·obtain ⟨k,rfl⟩ : ∃k:Nat,i=k:=⟨i.toNat,by omega⟩;have hk:k < l.length:=Zf;obtain ⟨old,hold⟩ : ∃old,l[k]?=some old:=⟨_,Zg hk⟩;obtain ⟨g,rfl⟩ : ∃g,a=some ⟨g,0,none⟩:=by
   rcases h2.2 with ⟨_,h9⟩ | ⟨g,_,_,h9,_⟩
   ·omega
   ·injection h9 with h9; exact ⟨g,h9⟩
  have MI: ∀i,(Yj (some ⟨g,0,none⟩) l.length cp).ownBlock=some i ↔ i=g:=fun i=>by simp [Y7,eq_comm]
  have Zap: ∀w',Zx (fun i=>i=b\/i=m\/i=g) w w'->Zx S w w':=fun w' hk=>hk.more (fun i _ hi=>(hS i).2 (hi.imp id (Or.imp id (fun e=>(MI i).2 e))))
  by_cases he:v=old
  ·subst he;have xC:l.set k v=l:=by
    refine List.ext_getElem? fun j=>?_
    rw [List.getElem?_set]
    split
    ·rename_i hj; subst hj; rw [hold]; try simp [hk]
    ·rfl
   exact (nU b cap m cp g k l v w h1 h2 hold).mono fun e w' ⟨he,hb⟩=> .inr ⟨k,v,rfl,hold,.inl ⟨by omega,he,by rw [xC]; exact ZgJ.below hb,YR hb⟩⟩
  ·by_cases ht:Zw l - old.bal+v.bal<=18446744073709551615
   ·refine (yL b cap m cp g k l old v w h1 h2 hold he Zf h7 hv h6 ht).mono fun e w' ⟨he,fG,r1,r2⟩=> .inr ⟨k,old,rfl,hold,.inl ⟨ht,he,⟨m,_,r1,by simpa using r2,h3,h4,by simpa using h5,?_,?_,hS⟩,Zap w' fG⟩⟩
    ·rw [JK hold]; exact ht
    ·intro x hx
     rcases List.mem_or_eq_of_mem_set hx with hx | rfl
     ·exact h7 x hx
     ·exact hv
   ·exact (nT b cap m cp g k l old v w h1 h2 hold he Zf h7 hv h6 Zf).mono fun e w' ⟨he,fG,r1,r2⟩=> .inr ⟨k,old,rfl,hold,.inr ⟨by omega,he,⟨m,_,r1,r2,h3,h4,h5,h6,h7,hS⟩,Zap w' fG⟩⟩
end
section
open Go Go.RowKit Go.Deep
theorem Ba {w:Zc}{base:Nat}{e:ZJ}{k:Nat}{v:Zk}{n:Nat}{xs:List Zk}(h:w.ownsRow base e k v n xs){B:Nat}(hB:B<=base) :w.ownsRow B e k v n xs:=tM
theorem xI {w w':Zc}{S:Nat->Prop}{a:Option Addr}{l:List ZN}(h:DH w S a l)(hb:Zp w.heap.size w w') :0 < l.length-> ∃ad,a=some ad/\ ∀j u,(Xz l)[j]?=some u->w'.cell? (ad.add j)=some u:=fun h0=>(h.below hb).flat h0
theorem OL (S:Nat->Prop)(a:Option Addr)(cp:Nat)(l:List ZN)(w:Zc)(h:DH w S a l)(hl:l.length<=4096) :
  Zv Zb 25 #[.slice a l.length cp] w fun e w'=> ∃v,e= .returned v/\w'.ownsRow w.heap.size 68 7 v l.length (Xz l)/\Zp w.heap.size w w':=by
 have HL:=Za h
 by_cases hn:a=none
 ·subst hn;have h0:l.length=0:=by
   rcases Nat.eq_zero_or_pos l.length with h0 | h0
   ·exact h0
   ·obtain ⟨b,off,h1,_⟩:=h h0
    cases h1
  obtain rfl:=ZR h0;clear h HL;have heq:=fun (w:Zc) (a:Option Addr) (n c:Nat)=>Lib.run_eql_slice_nil (P:=Zb) w 22 68 a n c 0 0 underlying22
  go_enter func25,ntmps25;exact Zbi
 ·obtain ⟨ad,rfl⟩:=Option.ne_none_iff_exists'.1 hn;obtain ⟨i,hi,hz,xB,MG⟩:=IL;have hlen:=Hy l;have HLEN:=Za hlen;clear h hn hlen;have heq:=fun (w:Zc) (a:Option Addr) (n c:Nat)=>Lib.run_eql_slice_nil (P:=Zb) w 22 68 a n c 0 0 underlying22
  go_enter func25,ntmps25;go_wp2_with (at_builtin; refine XU _ rfl (.tmp 5) (.tmp 6) 22 rfl w.heap.size 68 i _ 7 56 underlying22 hi hz xB MG (PF _) Zf (.slice (some ⟨w.heap.size,0,none⟩) 0 0) 0 [] rfl (gG (Zt w _ _) (Zh _)) (some ad) l.length cp (Xz l) rfl (by rw [HLEN.o]) (fun h0=>xI HL.o ((Zo _ _).alloc (Zh _) _) h0) qt GU Zf ZE ?_; intro v w1 ho hg hv);have hZ:w1.ownsRow w.heap.size 68 7 v l.length (Xz l)/\Zp w.heap.size w w1:=by
   refine ⟨by simpa using ho,?_⟩;exact GW ((Zo _ _).alloc (Zh _) _) (g:=w.heap.size) hg ZE (Zh _)
  have HZ:=Za hZ;clear ho hg hv hZ hi hz xB MG;go_wp2;go_ret;exact ⟨_,rfl,HZ.o⟩
theorem ZiP (w:Zc) :YV 43 #[.pointer none] w (.slice none 0 0):=by
 go_enter func43,ntmps43;exact Uu
theorem vO (b cap:Nat)(S:Nat->Prop)(l:List ZN)(w:Zc)(h:EW w b S cap l) :
  Zv Zb 43 #[.pointer (some ⟨b,0,none⟩)] w fun e w'=> ∃v,e= .returned v/\w'.ownsRow w.heap.size 68 7 v l.length (Xz l)/\Zp w.heap.size w w':=by
 obtain ⟨m,a,cp,x0,x1,x2,x3,x4,q1,q2,_,hL⟩:=h.cells;have hl:=h.fits;have H:=Za (OL _ a cp l w hL Zf);clear h hL hl x0 x2 x3 x4;go_enter func43,ntmps43;go_wp2_with fail;refine H.o.mono ?_;rintro e w1 ⟨v,rfl,ho,hb⟩;have HZ:=Za (And.intro ho hb);clear ho hb H;go_wp2_with fail;go_ret;exact ⟨_,rfl,HZ.o⟩
theorem jJ (b cap:Nat)(S:Nat->Prop)(i:Int)(l:List ZN)(w:Zc)(h:EW w b S cap l) :
  Zv Zb 126 #[.pointer (some ⟨b,0,none⟩),.int .i64 i] w fun e w'=>Zp w.heap.size w w'/\(((i < 0\/l.length<=i)/\e= .returned (.tuple #[.agg (Zd ZS),.bool false]))\/ ∃(k:Nat) (v:ZN),i=k/\l[k]?=some v/\e= .returned (.tuple #[.agg (Zd v),.bool true])):=by
 obtain ⟨m,a,cp,x0,x1,x2,x3,x4,q1,q2,_,hL⟩:=h.cells
 by_cases ho:i < 0\/(l.length:Int)<=i
 ·refine (Zcw (some ⟨b,0,none⟩) i w (fun w' hb=>?_)).mono fun e w' ⟨he,hb⟩=>⟨hb,.inl ⟨ho,he⟩⟩
  exact jM b l.length cp a i w' ((hb.cell (p:=⟨b,1,none⟩) (Ga x1)).trans x1) ho
 ·obtain ⟨k,rfl⟩ : ∃k:Nat,i=k:=⟨i.toNat,by omega⟩;have hk:k < l.length:=Zf;obtain ⟨v,hv⟩ : ∃v,l[k]?=some v:=⟨_,Zg hk⟩;obtain ⟨g,off,rfl,hr⟩:=hL.at hv;exact (Zcv b l.length cp k g off v w x1 hk hr).mono fun e w' ⟨he,hb⟩=>⟨hb,.inr ⟨k,v,rfl,hv,he⟩⟩
end
section
open Go Go.ChangeShapes Go.WideShapes Go.RowKit Go.Deep
def JX (p:Int × Int) :List Zk:= [.int .i64 p.1,.int .i64 p.2]
def Yx (p:Int × Int) :Array Zk:=(JX p).toArray
theorem Ug (p:Int × Int) :(Yx p).all (·.oneCell')=true:=by
 refine ZK.2 (fun u hu=>?_);simp only [Yx,JX,List.mem_toArray,ZU,Yg,or_false] at hu
 rcases hu with rfl | rfl <;> rfl
theorem Le:(Tryz.prog.info? 116).map (·.size)=some 2:=ZC
theorem NK:(Tryz.prog.info? 240).map (·.size)=some 2:=ZC
theorem Zg1: ∃i,Tryz.prog.info? 3=some i:=by
 have h:(Tryz.prog.info? 3).isSome=true:=ZC;exact Option.isSome_iff_exists.1 h
theorem wL (x y:Int × Int)(w:Zc) :(Gg 10000 240 (.agg (Yx x)) (.agg (Yx y))).run Zb w= .ok (decide (x=y)) w:=by
 obtain ⟨i,hi⟩:=Zg1;rw [run_equalIn_array w 9999 (Yx x) (Yx y) underlying240 hi,show Tryz.prog.cellsOf 3=1 by kernel_rfl];have hI:=underlying3;have p0:(part 3 (Yx x) 0).run Zb w= .ok (.int .i64 x.1) w:=X9 w (UD hI) rfl;have p1:(part 3 (Yx x) 1).run Zb w= .ok (.int .i64 x.2) w:=X9 w (UD hI) rfl;have q0:(part 3 (Yx y) 0).run Zb w= .ok (.int .i64 y.1) w:=X9 w (UD hI) rfl;have q1:(part 3 (Yx y) 1).run Zb w= .ok (.int .i64 y.2) w:=X9 w (UD hI) rfl;have e0:(Gg 9999 3 (.int .i64 x.1) (.int .i64 y.1)).run Zb w=_:=run_equalIn_int (P:=Zb) w 9998 _ .i64 .i64 x.1 y.1 hI;have e1:(Gg 9999 3 (.int .i64 x.2) (.int .i64 y.2)).run Zb w=_:=run_equalIn_int (P:=Zb) w 9998 _ .i64 .i64 x.2 y.2 hI;rw [show List.range 2=[0,1] from rfl];simp only [Op.eqItems,Yr,Jw,Nat.one_mul,p0,q0,e0,ZW]
 by_cases h0:x.1=y.1
 ·have hb:(x.1==y.1)=true:=by simpa using h0
  simp [hb,p1,q1,e1]
  by_cases h1:x.2=y.2 <;> simp [h0,h1,Prod.ext_iff]
 ·simp [h0,Prod.ext_iff]
theorem bu {a:Act}{dst:Option Tmp}{yt ty:ZJ}{x y:YN}{pos:String}{after:Array Edge}{guard:Option (Nat × Bool)}{w:Zc}{p q:Int × Int}{r:Bool}(hx:a.eval x= .agg (Yx p))(hy:a.eval y= .agg (Yx q))(hr:decide (p=q)=r) :
  (XL a.eval { dst,op:= .binOp .eql 240 x y yt,type:=ty,pos,after,guard}).run Zb w= .ok (.value (.bool r)) w:=by
 simp only [XL,hx,hy,Yr,run_eqGuard_agg w .eql _ x y _ _ (show Tryz.prog.eqGuardType Tryz.prog.depth 240=false by kernel_rfl),ZW,run_eql_struct,wL p q w,YU,hr]
def eo (w:Zc)(S:Nat->Prop)(a:Option Addr)(q:List (Int × Int)) :Prop:=
 0 < q.length-> ∃b off,a=some ⟨b,off,none⟩/\ ¬S b/\b < w.heap.size/\ ∀i p,q[i]?=some p->w.rangeAt b (off+i*2) (JX p)
section
variable {w w':Zc} {S T:Nat->Prop} {a:Option Addr} {q:List (Int × Int)}
theorem eo.nil (w:Zc)(S:Nat->Prop)(a:Option Addr) :eo w S a []:=fun h=>by simp at h
theorem eo.same (h:eo w S a q)(hs:w.heap.size<=w'.heap.size)(hb: ∀b,b < w.heap.size-> ¬S b->w'.heap[b]?=w.heap[b]?) :eo w' S a q:=fun h0=>by
 obtain ⟨b,off,h1,h2,h3,h4⟩:=h h0;exact ⟨b,off,h1,h2,by omega,fun i v hi=>World.rangeAt.same (h4 i v hi) (hb b h3 h2)⟩
theorem eo.below (h:eo w S a q)(hb:Zp w.heap.size w w') :eo w' S a q:=h.same hb.size fun b XV _=>hb.block b XV
theorem eo.more (h:eo w S a q)(hT: ∀i,i < w.heap.size->T i->S i) :eo w T a q:=fun h0=>by
 obtain ⟨b,off,h1,h2,h3,h4⟩:=h h0;exact ⟨b,off,h1,fun ht=>h2 (hT b h3 ht),h3,h4⟩
theorem eo.at (h:eo w S a q){i:Nat}{p:Int × Int}(hi:q[i]?=some p) : ∃b off,a=some ⟨b,off,none⟩/\w.rangeAt b (off+i*2) (JX p):=by
 obtain ⟨b,off,h1,_,_,h4⟩:=h iX;exact ⟨b,off,h1,h4 i p hi⟩
end
section
variable {P:YL} {ops:Array Oper} {rest:List Oper} {op:Oper} {a:Act} {w:Zc} {Q:Exit->Act->Zc->Prop}
theorem cX {C:Zc->Prop}{Qa:Act->Prop}(ty:ZJ)(x:YN)(b o:Nat)(p:Int × Int)(d:TypeDesc)(hw:Region.wanted op (yielded ops a.tmps)=true)(ho:op.op= .load ty x)(hx:a.eval x= .pointer (some ⟨b,o,none⟩))
  (hC: ∀w,C w->w.rangeAt b o (JX p)) (hu:P.underlying ty=some d) (hd:d.isRow=true) (hi:(P.info? ty).map (·.size)=some 2)
  (h:ZZ P ops C Qa rest (a.put op.dst (.agg (Yx p)))) :ZZ P ops C Qa (op::rest) a:=by
 unfold ZZ;rw [if_pos hw];refine ⟨_,fun w hc=>?_,h⟩;unfold Oper.quietAt XL;simp only [ho,hx,Uv,Instr.sureAddr,Yr,YU,ZW,run_loadVar_mid w b o ty (JX p) d (hC w hc) hu hd hi];exact DF
end
end
section
def Mv (s d:ZN) :Bool:=decide (s.st≠2\/d.st≠2)
def LC (s d:ZN) :Bool:=s.sl||d.sl
def Mw (s d:ZN)(mb:Int) :Bool:=decide (18446744073709551615 < s.bal+d.bal\/mb < s.bal+d.bal)
def EA (s d:ZN)(mb:Int) :Int:=if Mv s d=true then 8 else if LC s d=true then 9 else if Mw s d mb=true then 3 else 0
def DV (s:ZN) :ZN:= { s with bal:=0,st:=7}
def NQ (s d:ZN) :ZN:= { d with bal:=d.bal+s.bal}
def DK (l:List ZN)(p:Int × Int)(mb:Int) :Int:=
 if p.1 < 0\/p.2 < 0\/(l.length:Int)<=p.1\/(l.length:Int)<=p.2 then 7 else if p.1=p.2 then 12 else EA (l.getD p.1.toNat ZS) (l.getD p.2.toNat ZS) mb
def Te (l:List ZN)(i j:Nat) :List ZN:=(l.set i (DV (l.getD i ZS))).set j (NQ (l.getD i ZS) (l.getD j ZS))
def UE (l:List ZN)(p:Int × Int)(mb:Int) :List ZN:=if DK l p mb=0 then Te l p.1.toNat p.2.toNat else l
def JW (mb:Int) :List ZN->List (Int × Int)->List ZN
 | l,[]=>l
 | l,p::q=>JW mb (UE l p mb) q
def FX (mb:Int) :List ZN->List (Int × Int)->List Bool
 | _,[]=> []
 | l,p::q=>decide (DK l p mb=0)::FX mb (UE l p mb) q
theorem OK {s d:ZN}{mb:Int}(h:EA s d mb=0) :s.st=2/\d.st=2/\s.sl=false/\d.sl=false/\s.bal+d.bal<=18446744073709551615/\s.bal+d.bal<=mb:=by
 unfold EA at h
 split at h
 ·omega
 ·split at h
  ·omega
  ·split at h
   ·omega
   ·rename_i h1 h2 h3
    simp [Mv] at h1;simp [LC] at h2;simp [Mw] at h3;exact ⟨h1.1,h1.2,h2.1,h2.2,by omega,by omega⟩
theorem ik {l:List ZN}{p:Int × Int}{mb:Int}(h:DK l p mb=0) : ∃(i j:Nat) (s d:ZN),p=((i:Int),(j:Int))/\i≠j/\l[i]?=some s/\l[j]?=some d/\EA s d mb=0:=by
 unfold DK at h
 split at h
 ·omega
 ·split at h
  ·omega
  ·rename_i h1 h2
   obtain ⟨p1,p2⟩:=p;simp only at h h1 h2;refine ⟨p1.toNat,p2.toNat,l.getD p1.toNat ZS,l.getD p2.toNat ZS,?_,by omega,?_,?_,h⟩
   ·simp only [Prod.mk.injEq];omega
   ·exact tV
   ·exact tV
theorem K8 {l:List ZN}{i:Nat}{v:ZN}(h:l[i]?=some v) :l.getD i ZS=v:=by rw [Zm,h]; rfl
theorem sw {l:List ZN}{i j:Nat}{s d:ZN}(mb:Int)(hi:l[i]?=some s)(hj:l[j]?=some d) :DK l ((i:Int),(j:Int)) mb=if i=j then 12 else EA s d mb:=by
 have h1:=(Zj.1 hi).1;have h2:=(Zj.1 hj).1;unfold DK;rw [if_neg FK];simp only [YT,K8 hi,K8 hj]
 by_cases h:i=j
 ·rw [if_pos Zf,if_pos h]
 ·rw [if_neg Zf,if_neg h]
theorem rS (l:List ZN)(i j:Nat) :(Te l i j).length=l.length:=by simp [Te]
theorem xT (l:List ZN)(p:Int × Int)(mb:Int) :(UE l p mb).length=l.length:=by unfold UE; split <;> simp [rS]
theorem Pd (mb:Int)(q:List (Int × Int)) : ∀l,(JW mb l q).length=l.length:=by
 induction q with
 | nil=>intro l; rfl
 | cons p q ih=>intro l; rw [JW,ih,xT]
theorem AV (mb:Int)(q:List (Int × Int)) : ∀l,(FX mb l q).length=q.length:=by
 induction q with
 | nil=>intro l; rfl
 | cons p q ih=>intro l; simp [FX,ih]
theorem iI (mb:Int)(p:Int × Int)(q:List (Int × Int)) : ∀l,JW mb l (q++[p])=UE (JW mb l q) p mb:=by
 induction q with
 | nil=>intro l; rfl
 | cons x q ih=>intro l; simp only [Yf,JW,ih]
theorem iH (mb:Int)(p:Int × Int)(q:List (Int × Int)) : ∀l,FX mb l (q++[p])=FX mb l q++[decide (DK (JW mb l q) p mb=0)]:=by
 induction q with
 | nil=>intro l; rfl
 | cons x q ih=>intro l; simp only [Yf,JW,FX,ih]; rfl
theorem TW {q:List (Int × Int)}{k:Nat}{p:Int × Int}(h:q[k]?=some p) :q.take (k+1)=q.take k++[p]:=lg
theorem EN (mb:Int){I:List ZN->Prop}(hI: ∀l i j s d,I l->i≠j->l[i]?=some s->l[j]?=some d->EA s d mb=0->I ((l.set i (DV s)).set j (NQ s d)))(q:List (Int × Int)) : ∀l,I l->I (JW mb l q):=by
 induction q with
 | nil=>exact fun l h=>h
 | cons p q ih=>
  intro l h;rw [JW];refine ih _ ?_;unfold UE
  split
  ·rename_i h0
   obtain ⟨i,j,s,d,rfl,Ka,hi,hj,hc⟩:=ik h0;simp only [Te,YT,K8 hi,K8 hj];exact hI l i j s d h Ka hi hj hc
  ·exact h
theorem ZdF {l:List ZN}{i j:Nat}{s d:ZN}(Ka:i≠j)(hi:l[i]?=some s)(hj:l[j]?=some d)(k:Nat) :
  ((l.set i (DV s)).set j (NQ s d))[k]?=if k=j then some (NQ s d) else if k=i then some (DV s) else l[k]?:=by
 have h1:=(Zj.1 hi).1;have h2:=(Zj.1 hj).1
 by_cases h:k=j
 ·subst h; simp [h2]
 ·by_cases h':k=i
  ·subst h'; rw [if_neg h,if_pos rfl,Yo (Q0 h),List.getElem?_set_self h1]
  ·rw [if_neg h,if_neg h',Yo (Q0 h),Yo (Q0 h')]
theorem CK {s d:ZN}{mb:Int}(hs:Yh s)(hd:Yh d)(hc:EA s d mb=0) :Yh (DV s)/\Yh (NQ s d):=by
 have h:=OK hc;have hs':=hs.bal;have hd':=hd.bal;refine ⟨⟨show (Lit.int .u64 0).wf=true by decide,show (Lit.int .i64 7).wf=true by decide⟩,?_,hd.2⟩;simp [NQ,Lit.wf,IntKind.min,IntKind.max,IntKind.signed,IntKind.bits];omega
theorem TQ (mb:Int)(q:List (Int × Int))(l:List ZN)(h: ∀v ∈ l,Yh v) : ∀v ∈ JW mb l q,Yh v:=by
 refine EN mb (I:=fun l=> ∀v ∈ l,Yh v) (fun l i j s d hI Ka hi hj hc v hv=>?_) q l h;obtain ⟨k,hk⟩:=List.getElem?_of_mem hv;rw [ZdF Ka hi hj] at hk;have hf:=CK (hI s (Zy hi)) (hI d (Zy hj)) hc
 split at hk
 ·injection hk with hk; subst hk; exact hf.2
 ·split at hk
  ·injection hk with hk; subst hk; exact hf.1
  ·exact hI v (Zy hk)
theorem TR (mb:Int)(q:List (Int × Int))(l:List ZN) :Zw (JW mb l q)=Zw l/\Ye (JW mb l q)=Ye l:=by
 refine EN mb (I:=fun m=>Zw m=Zw l/\Ye m=Ye l) (fun m i j s d hI Ka hi hj hc=>?_) q l ⟨rfl,rfl⟩;have h:=OK hc;have Ou:(m.set i (DV s))[j]?=some d:=dR
 rw [JK Ou,JK hi,Fc Ou,Fc hi,hI.1,hI.2];have e1:XB s=s.bal:=by simp [XB,VX,h.1]
 have e2:XB d=d.bal:=by simp [XB,VX,h.2.1]
 have e3:XB (DV s)=0:=by simp [XB,VX,DV]
 have e4:XB (NQ s d)=d.bal+s.bal:=by simp [XB,VX,NQ,h.2.1]
 rw [e1,e2,e3,e4];simp only [DV,NQ];omega
end
section
open Go Go.RowKit
section
variable {P:YL} {ops:Array Oper} {Q:Exit->Act->Zc->Prop} {md:JS} {S:Zc->Prop}
theorem cZ {Zs:Array Bool}{j:Nat}(h:j ∈ Yq md ops Zs) :j < ops.size:=by
 obtain ⟨_,o,ho,_⟩:=mem_ready.1 h;exact (Ym.1 ho).1
theorem Wb {i:Nat}{oi:Oper}{v:Zk}{L:Array Bool->Act->Zc->Prop}(hi:ops[i]?=some oi)(G9: ∀(j:Nat) (o:Oper) cs b,ops[j]?=some o->o.op≠ .select cs b)
  (hQ: ∀c a w,Q (.panic c) (a.put oi.dst v) w->Q (.panic c) a w)
  (EC: ∀Zs a w,L Zs a w->Yq md ops Zs=[]) :
  ∀(f:Nat) (Zs:Array Bool) (a:Act) (w:Zc),
   (∀j oj,ops[j]?=some oj->j≠i->Zs.getD j true=false->(∀e ∈ oj.after,Xd md e=true->e.on≠i)->oi.apart ops oj=true)->
   i ∈ Yq md ops Zs->YieldsIf P ops S oi v a->S w->
   XT P md ops Q S ops.size L f (Zs.setIfInBounds i true) (a.put oi.dst v) w->XT P md ops Q S ops.size L (f+1) Zs a w:=by
 intro f
 induction f with
 | zero=>
  intro Zs a w _ hr hy hS H;refine ⟨fun h=>Pq,fun j hj=>⟨cZ hj,?_⟩⟩
  by_cases NF:j=i
  ·exact kY
  ·have:=EC _ _ _ H;have hm:=Uo hj NF;rw [this] at hm
   cases hm
 | succ f ih=>
  intro Zs a w Mt hr hy hS H;have CU:=(mem_ready.1 hr).1;refine ⟨fun h=>Pq,fun j hj=>⟨cZ hj,?_⟩⟩
  by_cases NF:j=i
  ·exact kY
  ·have h1:=(H.2 j (Uo hj NF)).2;obtain ⟨bL,oj,ri,Dn⟩:=mem_ready.1 hj;have Fp: ∀e ∈ oj.after,Xd md e=true->e.on≠i:=fun e he hb heq=>by
    exact uf
   have h2:=wpOp_putIf ri (Mt j oj ri NF bL Fp) (fun cs b=>G9 i oi cs b hi) (fun cs b=>G9 j oj cs b ri) hQ hy h1;have SS: ∀k ok,ops[k]?=some ok->k≠i->(Zs.setIfInBounds j true).getD k true=false->
     (∀e ∈ ok.after,Xd md e=true->e.on≠i)->oi.apart ops ok=true:=fun k ok hk hki CU rh=>by
    refine Mt k ok hk hki ?_ rh
    by_cases ED:j=k
    ·subst ED; exact bL
    ·rw [getD_set_ne true ED] at CU; exact CU
   refine wpOp_mono (fun a' w' h3=>⟨h3.2.1,ih (Zs.setIfInBounds j true) a' w' SS (Uo hr (Q0 NF)) h3.1 h3.2.1 ?_⟩) h2;rw [Array.setIfInBounds_comm _ _ NF];exact h3.2.2
theorem DB {L:Array Bool->Act->Zc->Prop}{w:Zc}(G9:X3 ops=true)(hQ: ∀c a w,Q (.panic c) a w->False)
  (EC: ∀Zs a w,L Zs a w->Yq md ops Zs=[]) (hS:S w) (f:Nat) :
  ∀(ks:List Nat) (Zs:Array Bool) (a:Act),ER md ops ops.size ks Zs=true->
   ZZ P ops S (fun a'=>XT P md ops Q S ops.size L f (UA ks Zs) a' w) (ks.filterMap fun k=>ops[k]?) a->XT P md ops Q S ops.size L (f+ks.length) Zs a w
 | [],Zs,a,_,h=>h
 | k::ks,Zs,a,hB,h=>by
  simp only [ER,YO,decide_eq_true_eq] at hB;obtain ⟨⟨⟨⟨Hd,hp⟩,hr⟩,hf⟩,hB'⟩:=hB
  cases ho:ops[k]? with
  | none=>rw [ho] at hp; cases hp
  | some o=>
   rw [ho] at hp;rw [List.filterMap_cons_some ho] at h;have xA:k ∈ Yq md ops Zs:=by simpa using hr
   have hq:qOp P ops S k (ZZ P ops S (fun a'=>XT P md ops Q S ops.size L f (UA ks (Zs.setIfInBounds k true)) a' w) (ks.filterMap fun k=>ops[k]?)) a:=by unfold qOp; simp only [ho]; exact h
   obtain ⟨v,hy,hK⟩:=D8 ho hp hq;exact Wb ho (Region.noSelect_spec G9) (fun c a w h=>(hQ _ _ _ h).elim) EC (f+ks.length) Zs a w (Region.free_spec ho hf) xA hy hS
    (DB G9 hQ EC hS f ks _ _ hB' hK)
theorem RE {id:Nat}{a:Act}{w:Zc}{l:List Oper}(S:Zc->Prop)(f:Nat)(ks:List Nat)(hm:P.follows .mixedOrders=true)
  (hB:(X3 l.toArray&&ER .any l.toArray l.toArray.size ks (Qk l.toArray.size false)&&decide (f+ks.length=l.toArray.size))=true)
  (hS:S w.drew)
  (h:ZZ P l.toArray S (fun a'=>XT P .any l.toArray (Qq Q) S l.toArray.size (fun Zs a' w'=>Yq .any l.toArray Zs=[]/\Qq Q .normal a' w') f (UA ks (Qk l.toArray.size false)) a' w.drew) (ks.filterMap fun k=>l.toArray[k]?) a) :
  (Code.region id l.toArray true).wp P Q a w:=by
 simp only [YO,decide_eq_true_eq] at hB;obtain ⟨⟨G9,ht⟩,hf⟩:=hB;refine wp_region_noPanic (wp_region_any hm ?_);have H:=DB (Q:=Qq Q) G9 (fun _ _ _ h=>h) (fun Zs a w hL=>hL.1) hS f ks _ a ht h;have:=DA (Q:=Qq Q) (g:=0) (fun Zs a' w' hL=>⟨hL.1,hL.2⟩) _ _ _ _ H;rw [hf] at this;exact this
theorem Fm {f m:Nat}{l:List Oper}{a:Act}{w:Zc}{Zs:Array Bool}(S':Zc->Prop)(ks:List Nat)(hSS: ∀w,S' w->S w)
  (hB:(X3 l.toArray&&ER .any l.toArray l.toArray.size ks Zs&&decide (f+ks.length=m))=true) (hS:S' w)
  (h:ZZ P l.toArray S' (fun a'=>XT P .any l.toArray (Qq Q) S' l.toArray.size (fun Zs a' w'=>Yq .any l.toArray Zs=[]/\Qq Q .normal a' w') f (UA ks Zs) a' w) (ks.filterMap fun k=>l.toArray[k]?) a) :
  XT P .any l.toArray (Qq Q) S l.toArray.size (fun Zs a' w'=>Yq .any l.toArray Zs=[]/\Qq Q .normal a' w') m Zs a w:=by
 simp only [YO,decide_eq_true_eq] at hB;obtain ⟨⟨G9,ht⟩,hf⟩:=hB;refine FF hSS m Zs a w ?_;rw [<-hf];exact DB (Q:=Qq Q) G9 (fun _ _ _ h=>h) (fun Zs a w hL=>hL.1) hS f ks _ a ht h
theorem wp_load_mid {o:Oper}{a:Act}{w:Zc}{K:Act->Zc->Prop}(ty:ZJ)(x:YN)(ho:o.op= .load ty x)
  (b off:Nat) (hx:a.eval x= .pointer (some ⟨b,off,none⟩)) (cs:List Zk) (d:TypeDesc) (hc:w.rangeAt b off cs)
  (hu:P.underlying ty=some d) (hd:d.isRow=true) (hi:(P.info? ty).map (·.size)=some cs.length) (h:K (a.put o.dst (.agg cs.toArray)) w) :o.wp P a w K Q:=by
 unfold Jp XL;simp only [ho,hx,Uv,Instr.sureAddr,Yr,YU,ZW,run_loadVar_mid w b off ty cs d hc hu hd hi];exact h
end
end
section
open Go Go.RowKit
section
variable {P:YL} {ops:Array Oper} {Q:Exit->Act->Zc->Prop} {md:JS} {S:Zc->Prop}
theorem Ra {id:Nat}{a:Act}{w:Zc}{l:List Oper}(S:Zc->Prop)(f:Nat)(ks:List Nat)(hS:S w.drew)
  (h:ZZ P l.toArray S (fun a'=>XT P .any l.toArray (Qq Q) S l.toArray.size (fun Zs a' w'=>Yq .any l.toArray Zs=[]/\Qq Q .normal a' w') f (UA ks (Qk l.toArray.size false)) a' w.drew) (ks.filterMap fun k=>l.toArray[k]?) a)
  (hm:P.follows .mixedOrders=true:=by kernel_rfl)
  (hB:(X3 l.toArray&&ER .any l.toArray l.toArray.size ks (Qk l.toArray.size false)&&decide (f+ks.length=l.toArray.size))=true:=by kernel_rfl) :
  (Code.region id l.toArray true).wp P Q a w:=RE S f ks hm hB hS h
theorem Mj {f m:Nat}{l:List Oper}{a:Act}{w:Zc}{Zs:Array Bool}(S':Zc->Prop)(ks:List Nat)(hS:S' w)
  (h:ZZ P l.toArray S' (fun a'=>XT P .any l.toArray (Qq Q) S' l.toArray.size (fun Zs a' w'=>Yq .any l.toArray Zs=[]/\Qq Q .normal a' w') f (UA ks Zs) a' w) (ks.filterMap fun k=>l.toArray[k]?) a)
  (hSS: ∀w,S' w->S w:=by exact fun _ h=>h)
  (hB:(X3 l.toArray&&ER .any l.toArray l.toArray.size ks Zs&&decide (f+ks.length=m))=true:=by kernel_rfl) :
  XT P .any l.toArray (Qq Q) S l.toArray.size (fun Zs a' w'=>Yq .any l.toArray Zs=[]/\Qq Q .normal a' w') m Zs a w:=Fm S' ks hSS hB hS h
end
end
section
open Go Go.RowKit Go.Deep
def QN (l:List ZN) :List Int:=l.map (·.bal)
theorem ES {l:List ZN}{k:Nat}{v:ZN}(h:l[k]?=some v) :l.take (k+1)=l.take k++[v]:=by
 have hk:=(Zj.1 h).1;exact lg
theorem dF (l:List ZN) : ∀n,n<=l.length->XW (QN l) n=Zw (l.take n)
 | 0,_=>by simp [XW,Zw]
 | n+1,h=>by
  obtain ⟨v,hv⟩ : ∃v,l[n]?=some v:=⟨_,Zg Zf⟩;rw [ES hv,UF,XW,dF l n Zf];simp [Zw,QN,Zm,hv]
theorem yV (l:List ZN) :XW (QN l) l.length=Zw l:=by rw [dF l _ (Zh _),List.take_length]
theorem zh: ∃i,Tryz.prog.info? 23=some i/\i.zero=some (.int .u64 0)/\i.size=1/\i.bytes=8:=by
 have h:(Tryz.prog.info? 23).map (fun i=>(i.zero,i.size,i.bytes))=some (some (.int .u64 0),1,8):=ZC
 cases hi:Tryz.prog.info? 23 with
 | none=>rw [hi] at h; cases h
 | some i=>
  exact uh
def BB (l:List ZN) :List Zk:=(QN l).map (.int .u64)
theorem cQ (l m:List ZN) :BB (l++m)=BB l++BB m:=by simp [BB,QN]
theorem ZdH {w:Zc}{base g n cp:Nat}{l:List ZN}(h:w.ownsRow base 23 1 (.slice (some ⟨g,0,none⟩) n cp) n (BB l))(hl:l.length=n) : ∀i,i < n->w.cell? ⟨g,0+i,none⟩=some (.int .u64 ((QN l).getD i 0)):=fun i hi=>by
 have e:(BB l)[i]?=some (.int .u64 ((QN l).getD i 0)):=by
  simp only [BB,QN,List.map_map,ZH,Zm,Zg (by omega:i < l.length)];rfl
 have:=h.cells (g:=g) rfl i _ e;rwa [add_plain] at this
theorem Sj {l:List ZN}(h: ∀v ∈ l,Yh v)(i:Nat) :0<=(QN l).getD i 0/\(QN l).getD i 0<=18446744073709551615:=by
 rw [Zm,QN,ZH]
 cases hi:l[i]? with
 | none=>simp
 | some v=>exact (h v (Zy hi)).bal
end
section
open Go Go.ChangeShapes Go.WideShapes Go.RowKit Go.Deep
theorem NW {w w':Zc}{b o:Nat}{cs:List Zk}(h:w.rangeAt b o cs)(hb:w'.heap[b]?=w.heap[b]?) :w'.rangeAt b o cs:=fun j v hv=>(World.cell?_of_block (w:=w) (a:=⟨b,o+j,none⟩) hb).trans (h j v hv)
section
variable {α:Type} {row:α->List Zk} {k:Nat}
def YK (row:α->List Zk)(l:List α) :List Zk:=l.flatMap row
theorem EB (hk: ∀v,(row v).length=k)(l:List α) :(YK row l).length=l.length*k:=by
 induction l with
 | nil=>simp [YK]
 | cons x l ih=>simp only [YK,QZ,List.length_append,hk,Yc] at ih ⊢; rw [ih,Nat.succ_mul]; omega
theorem Uy (l m:List α) :YK row (l++m)=YK row l++YK row m:=by simp [YK]
theorem LY (v:α) :YK row [v]=row v:=by simp [YK]
theorem Hv (hk: ∀v,(row v).length=k){l:List α}{i:Nat}{v:α}(h:l[i]?=some v){j:Nat}(hj:j < k) :(YK row l)[i*k+j]?=(row v)[j]?:=by
 induction l generalizing i with
 | nil=>simp at h
 | cons x l ih=>
  cases i with
  | zero=>
   simp at h;subst h;simp only [YK,QZ,Jw,Nat.zero_add];rw [List.getElem?_append_left (by rw [hk]; exact hj)]
  | succ i=>
   simp only [List.getElem?_cons_succ] at h;have:=ih h;simp only [YK,QZ] at this ⊢;rw [List.getElem?_append_right (by rw [hk,Nat.succ_mul]; omega),hk,show (i+1)*k+j - k=i*k+j by rw [Nat.succ_mul]; omega];exact this
theorem Tw (hk: ∀v,(row v).length=k){w:Zc}{b off:Nat}{l:List α}(h: ∀j u,(YK row l)[j]?=some u->w.cell? ⟨b,off+j,none⟩=some u){i:Nat}{v:α}(hi:l[i]?=some v) :w.rangeAt b (off+i*k) (row v):=by
 intro j u hu;have hj:j < k:=by rw [<-hk v]; exact uy
 rw [Nat.add_assoc];exact h _ _ ((Hv hk hi hj).trans hu)
theorem SK (hk: ∀v,(row v).length=k)(h0:0 < k){w:Zc}{b off:Nat}{l:List α}(h: ∀i v,l[i]?=some v->w.rangeAt b (off+i*k) (row v)) : ∀j u,(YK row l)[j]?=some u->w.cell? ⟨b,off+j,none⟩=some u:=by
 intro j u hu;have hj:j < l.length*k:=by rw [<-EB hk]; exact uy
 have hq:j/k < l.length:=Nat.div_lt_of_lt_mul (by rwa [Nat.mul_comm]);have hr:j%k < k:=Nat.mod_lt _ h0;have hd:j/k*k+j%k=j:=by rw [Nat.mul_comm]; exact Nat.div_add_mod j k
 have e:=Hv hk (Zg hq) hr;rw [hd,hu] at e;have:=h _ _ (Zg hq) (j%k) u e.symm;rwa [show off+j/k*k+j%k=off+j by omega] at this
def VM (row:α->List Zk)(k:Nat)(w:Zc)(S:Nat->Prop)(a:Option Addr)(l:List α) :Prop:=
 0 < l.length-> ∃b off,a=some ⟨b,off,none⟩/\ ¬S b/\b < w.heap.size/\ ∀i v,l[i]?=some v->w.rangeAt b (off+i*k) (row v)
variable {w w':Zc} {S T:Nat->Prop} {a:Option Addr} {l:List α} {B:Nat} {e:ZJ}
theorem VM.nil (w:Zc)(S:Nat->Prop)(a:Option Addr) :VM row k w S a ([] :List α):=fun h=>by simp at h
theorem VM.same (h:VM row k w S a l)(hs:w.heap.size<=w'.heap.size)(hb: ∀b,b < w.heap.size-> ¬S b->w'.heap[b]?=w.heap[b]?) :VM row k w' S a l:=fun h0=>by
 obtain ⟨b,off,h1,h2,h3,h4⟩:=h h0;exact ⟨b,off,h1,h2,by omega,fun i v hi=>NW (h4 i v hi) (hb b h3 h2)⟩
theorem VM.below (h:VM row k w S a l)(hb:Zp w.heap.size w w') :VM row k w' S a l:=h.same hb.size fun b XV _=>hb.block b XV
theorem VM.kept (h:VM row k w S a l)(hb:Zx S w w') :VM row k w' S a l:=h.same hb.size fun b XV hn=>hb.block b XV hn
theorem VM.alloc (h:VM row k w S a l)(o:Obj) :VM row k (w.alloc o) S a l:=h.same ZE fun b XV _=>Below.heap_alloc w o b XV
theorem VM.more (h:VM row k w S a l)(hT: ∀i,i < w.heap.size->T i->S i) :VM row k w T a l:=fun h0=>by
 obtain ⟨b,off,h1,h2,h3,h4⟩:=h h0;exact ⟨b,off,h1,fun ht=>h2 (hT b h3 ht),h3,h4⟩
theorem VM.at (h:VM row k w S a l){i:Nat}{v:α}(hi:l[i]?=some v) : ∃b off,a=some ⟨b,off,none⟩/\ ¬S b/\b < w.heap.size/\w.rangeAt b (off+i*k) (row v):=by
 obtain ⟨b,off,h1,h2,h3,h4⟩:=h iX;exact ⟨b,off,h1,h2,h3,h4 i v hi⟩
theorem VM.take (h:VM row k w S a l)(n:Nat) :VM row k w S a (l.take n):=fun h0=>by
 obtain ⟨b,off,h1,h2,h3,h4⟩:=h (by rw [Xr] at h0; omega);refine ⟨b,off,h1,h2,h3,fun i v hi=>h4 i v ?_⟩;rw [List.getElem?_take] at hi
 split at hi
 ·exact hi
 ·cases hi
theorem VM.flat (hk: ∀v,(row v).length=k)(hp:0 < k)(h:VM row k w S a l)(h0:0 < l.length) : ∃ad,a=some ad/\ ∀j u,(YK row l)[j]?=some u->w.cell? (ad.add j)=some u:=by
 obtain ⟨b,off,h1,_,_,h4⟩:=h h0;refine ⟨⟨b,off,none⟩,h1,fun j u hu=>?_⟩;rw [add_plain];exact SK hk hp h4 j u hu
variable {s:Zk} {n:Nat} {xs:List Zk}
theorem cS (h:w.ownsRow B e k s n xs) : ∃a cp,s= .slice a n cp/\n<=cp/\cp<=X8:=Zer
theorem Fw (h:w.ownsRow B e k s n xs)(hb: ∀i,s.ownBlock=some i->w'.heap[i]?=w.heap[i]?) :w'.ownsRow B e k s n xs:=Zey
theorem Fv (h:w.ownsRow B e k s n xs){C:Nat}(hB:C<=B) :w.ownsRow C e k s n xs:=tM
theorem rZ (h:w.ownsRow B e k s n xs){C:Nat}(hB: ∀i,s.ownBlock=some i->C<=i) :w.ownsRow C e k s n xs:=ZaP
theorem Gu (h:w.ownsRow B e k s n xs)(hb:Zp w.heap.size w w') :w'.ownsRow B e k s n xs:=Fw h fun i hi=>hb.block i (h.lt i hi).2
theorem Tj (h:w.ownsRow B e k s n xs)(hb:Zx S w w')(hS: ∀i,s.ownBlock=some i-> ¬S i) :w'.ownsRow B e k s n xs:=Fw h fun i hi=>hb.block i (h.lt i hi).2 (hS i hi)
theorem UB (h:w.ownsRow B e k s n xs){i:Nat}(hi:s.ownBlock=some i) : ∃cur,Zu w i e cur/\B<=i:=by
 rcases h.2 with ⟨rfl,_⟩ | ⟨g,cp,cur,rfl,h1,h2,_⟩
 ·cases hi
 ·simp only [Y7,QC] at hi;subst hi;exact ⟨cur,h2,h1⟩
theorem gu (w:Zc)(t:ZJ)(cs:List Zk) : ∀j u,cs[j]?=some u->(w.alloc (.cells cs.toArray t)).cell? ((⟨w.heap.size,0,none⟩ :Addr).add j)=some u:=fun j u hu=>by
 rw [add_plain,(Zt w t cs.toArray).cell];simpa using hu
theorem mZ (hk: ∀v,(row v).length=k)(h:w.ownsRow B e k s n (YK row l))(hl:l.length=n)(hS: ∀i,s.ownBlock=some i-> ¬S i) : ∃a cp,s= .slice a n cp/\n<=cp/\cp<=X8/\VM row k w S a l:=by
 rcases h.2 with ⟨rfl,h0⟩ | ⟨g,cp,cur,rfl,h1,h2,h3,h4,h5⟩
 ·subst h0;refine ⟨none,0,rfl,by omega,by unfold X8; omega,fun h=>by omega⟩
 ·refine ⟨_,cp,rfl,h3,h4,fun h0=>⟨g,0,rfl,hS g rfl,(Ym.1 h2).1,fun i v hi=>?_⟩⟩;exact Tw hk (fun j u hu=>by
   have:=h.cells (g:=g) rfl j u hu;rwa [add_plain] at this) hi
end
section
variable {P:YL} (w:Zc)
def ag (P:YL)(xs ys:Array Zk)(f:Field) :Prop:=
 f.name≠ "_" /\((∃k n m,P.underlying f.type=some (.int k)/\xs[f.offset]?=some (.int k n)/\ys[f.offset]?=some (.int k m))\/(∃n m,P.underlying f.type=some .bool/\xs[f.offset]?=some (.bool n)/\ys[f.offset]?=some (.bool m))\/
  ∃n m,P.underlying f.type=some .string/\xs[f.offset]?=some (.string n)/\ys[f.offset]?=some (.string m))
theorem Ae {n m:ByteArray} :(n.toList==m.toList)=true ↔ n=m:=by
 rw [beq_iff_eq,ByteArray.toList_eq,ByteArray.toList_eq];constructor
 ·intro h;have:n.data=m.data:=Array.toList_inj.1 h
  cases n; cases m; simp_all
 ·rintro rfl; rfl
theorem Nz (d:Nat)(xs ys:Array Zk) :
  ∀(fs:List Field),(∀f ∈ fs,ag P xs ys f)->
   ∃r,(KJ (d+1) xs ys fs).run P w= .ok r w/\(r=true ↔ ∀f ∈ fs,xs[f.offset]?=ys[f.offset]?)
 | [],_=>⟨true,by simp [KJ],by simp⟩
 | f::fs,h=>by
  obtain ⟨SV,h1⟩:=h f ZE;obtain ⟨r,hr,NH⟩:=Nz d xs ys fs (fun j hj=>h j LS);obtain ⟨x,y,b,hn,hm,hp,S7,hq,hb⟩ : ∃x y b,xs[f.offset]?=some x/\ys[f.offset]?=some y/\(part f.type xs f.offset).run P w= .ok x w/\(part f.type ys f.offset).run P w= .ok y w/\(Gg (d+1) f.type x y).run P w= .ok b w/\(b=true ↔ x=y):=by
   rcases h1 with ⟨k,n,m,hk,hn,hm⟩ | ⟨n,m,hk,hn,hm⟩ | ⟨n,m,hk,hn,hm⟩
   ·exact ⟨_,_,_,hn,hm,X9 w LR hn,X9 w LR hm,run_equalIn_int (P:=P) w d f.type k k n m hk,by simp⟩
   ·exact ⟨_,_,_,hn,hm,X9 w LR hn,X9 w LR hm,run_equalIn_bool' (P:=P) w d f.type n m hk,by simp⟩
   ·exact ⟨_,_,_,hn,hm,X9 w LR hn,X9 w LR hm,run_equalIn_string (P:=P) w d f.type n m hk,fun h=>by rw [Ae.1 h],fun h=>by injection h with h; exact Ae.2 h⟩
  cases b with
  | true=>
   obtain rfl:=hb.1 rfl;refine ⟨r,by simp only [KJ,SV,ne_eq,not_false_eq_true,if_true,Yr,hp,S7,hq,ZW]; simpa using hr,?_⟩;simp only [ZU,forall_eq_or_imp,hn,hm,true_and];exact NH
  | false=>
   refine ⟨false,by simp only [KJ,SV,ne_eq,not_false_eq_true,if_true,Yr,hp,S7,hq,ZW]; simp,?_⟩;have Ka:x≠y:=fun e=>by have:=hb.2 e; cases this
   simp [hn,hm,Ka]
theorem OO {t:ZJ}{fs:Array Field}(xs ys:Array Zk)(hu:P.underlying t=some (.struct fs))(hp:P.stoodInHeld t=false)(hx: ∀f ∈ fs.toList,ag P xs ys f) :
  ∃r,(Gg 10000 t (.agg xs) (.agg ys)).run P w= .ok r w/\(r=true ↔ ∀f ∈ fs.toList,xs[f.offset]?=ys[f.offset]?):=by
 have hf:P.fieldsOf t=fs:=by simp [Program.fieldsOf,hu]
 rw [run_equalIn_struct w 9999 t xs ys (by rw [hf]; exact hu) hp,hf];exact Nz w 9998 xs ys _ hx
end
theorem Rw {w:Zc}{base b off n:Nat}{cs:List Zk}(h:w.cells? base ((⟨b,off,none⟩ :Addr).add n) cs.length=some cs) :w.rangeAt b (off+n) cs:=fun j v hv=>by
 obtain ⟨_,_,h2⟩:=World.cells?_some h;have:=h2 j (Zj.1 hv).1;rw [add_plain,add_plain] at this;exact this.trans hv
def ek {α:Type}(row:α->List Zk)(k:Nat)(Fit:α->Prop)(w:Zc)(a:Option Addr)(len cap:Nat) :Prop:=
 len<=cap/\cap<=X8/\ ∃l:List α,l.length=len/\(∀v ∈ l,Fit v)/\VM row k w (fun _=>False) a l
section
variable {α:Type} [Inhabited α] {row:α->List Zk} {k:Nat} {Fit:α->Prop} {H:Type} {enc:ZJ × Zk->H} {P:YL} {w:Zc} {base:Nat} {held:Bool}
theorem C8 {t e:ZJ}{n:Nat}{v:Zk}{y:DataW H × List MemPlace}(ht:P.underlying t=some (.slice e))(hC:P.cellsOf e=k)(hk: ∀v,(row v).length=k)(hp:0 < k)
  (htr: ∀(n:Nat) (cs:List Zk) (x:DataW H × List MemPlace),DataW.trod enc P w base (fun _=>true) held n e cs=some x->cs.length=k-> ∃v:α,cs=row v/\Fit v)
  (hf:DataW.trod enc P w base (fun _=>true) held n t [v]=some y) : ∃(a:Option Addr) (len cap:Nat),v= .slice a len cap/\ek row k Fit w a len cap:=by
 rcases open_slice ht hf with h0 | ⟨x,l,c,m,n,D,Pl,EY,hb,hl,hm,eh,hx,hi⟩
 ·have EY:=h0.1;injection EY with EY;exact ⟨none,0,0,EY,by omega,by unfold X8; omega,[],rfl,by simp,VM.nil _ _ _⟩
 ·injection EY with EY;rw [hC] at hi;obtain ⟨f,xk⟩:=choose_lt (α:=α) (p:=fun i v=>w.cells? base (x.add (i*k)) k=some (row v)/\Fit v) (n:=l) (fun i Fo=>by
   obtain ⟨cs',h1,h2⟩:=hi i (by rw [eh]; simp; omega);obtain ⟨v,rfl,Bo⟩:=htr _ _ _ h2 (World.cells?_some h1).2.1;exact ⟨v,h1,Bo⟩)
  refine ⟨some x,l,c,by simpa using EY,by simpa using hl,hm,(List.range l).map f,by simp,fun v hv=>?_,fun h0=>?_⟩
  ·obtain ⟨i,Mu,rfl⟩:=List.mem_map.1 hv;exact (xk i (by simpa using Mu)).2
  ·simp at h0;obtain ⟨b,off,spot⟩:=x;have OV:=(World.cells?_some (xk 0 h0).1).2.2 0 hp;rw [Jw] at OV;have hl0:0 < (row (f 0)).length:=by rw [hk]; exact hp
   rw [Zg hl0] at OV;have hs:spot=none:=by
    have:=World.cell?_spot OV;simpa [Addr.add] using this
   subst hs;refine ⟨b,off,rfl,fun h=>h,by have:=Ga OV; rwa [add_plain,add_plain] at this,fun i v hiv=>?_⟩;simp only [ZH] at hiv;have Fo:i < l:=by
    rcases Nat.lt_or_ge i l with h | h
    ·exact h
    ·simp [h] at hiv
   simp [Fo] at hiv;subst hiv;exact Rw (base:=base) (by rw [hk]; exact (xk i Fo).1)
theorem open_lstR {t e:ZJ}{r:Reach}{b0:Nat}{v:Zk}{d:DataW H}{p:List MemPlace}(ht:P.underlying t=some (.slice e))(hC:P.cellsOf e=k)(hk: ∀v,(row v).length=k)(hp:0 < k)
  (htr: ∀(n:Nat) (cs:List Zk) (x:DataW H × List MemPlace),DataW.trod enc P w base (fun _=>true) held n e cs=some x->cs.length=k-> ∃v:α,cs=row v/\Fit v)
  (hv:Value.okWide P w r b0 t v) (h:DataW.Trod enc P w base (fun _=>true) held t v d p) : ∃(a:Option Addr) (len cap:Nat),v= .slice a len cap/\ek row k Fit w a len cap:=by
 obtain ⟨a,len,cap,rfl⟩:=okWide_slice ht hv;obtain ⟨fuel,hf⟩:=h;exact C8 ht hC hk hp htr hf
end
end
section
open Go Go.ChangeShapes Go.WideShapes Go.RowKit Go.Deep
structure Py where
 ix:Int
 am:Int
 fu:Bool
deriving DecidableEq,Inhabited
def Py.row (v:Py) :List Zk:= [.int .i64 v.ix,.int .u64 v.am,.bool v.fu]
def JP (v:Py) :Array Zk:=v.row.toArray
def pyZ:Py:=⟨0,0,false⟩
theorem Py.row_len (v:Py) :v.row.length=3:=rfl
theorem Py.row_one (v:Py) : ∀u ∈ v.row,u.oneCell'=true:=by
 intro u hu;simp only [Py.row,ZU,Yg,or_false] at hu;exact kX
theorem aM (v:Py) :(JP v).all (·.oneCell')=true:=by
 refine ZK.2 (fun u hu=>Py.row_one v u (by simpa [JP] using hu))
theorem Fi (v:Py) :(JP v).size=3:=rfl
theorem rD:(Tryz.prog.info? 252).map (·.size)=some 3:=ZC
theorem ju: ∃i,Tryz.prog.info? 252=some i/\i.zero=some (.agg (JP pyZ))/\i.size=3/\i.bytes=24:=by
 have h:(Tryz.prog.info? 252).map (fun i=>(i.zero,i.size,i.bytes))=some (some (.agg (JP pyZ)),3,24):=ZC
 cases hi:Tryz.prog.info? 252 with
 | none=>rw [hi] at h; cases h
 | some i=>
  exact uh
section
variable {P:YL} {ops:Array Oper} {rest:List Oper} {op:Oper} {a:Act} {w:Zc} {Q:Exit->Act->Zc->Prop}
theorem F6 (hg:op.guard=none)(t:ZJ)(parts:Array (Nat × YN))(ho:op.op= .build t parts)(v:Py)
  (hf:P.built t (parts.map fun (i,x)=>(i,a.eval x)).toList=some (JP v)) (h:wpList P ops Q rest (a.put op.dst (.agg (JP v))) w) :wpList P ops Q (op::rest) a w:=
 wpList_build hg t parts ho (by rw [hf]; rfl) IX
end
theorem nL (x:Py)(w:Zc) :(XD 51 1 #[(0,.agg (JP x))]).run Zb w= .ok (.slice (some ⟨w.heap.size,0,none⟩) 1 1) (w.alloc (.cells (JP x) 252)):=by
 obtain ⟨i,hi,hz,hs,MG⟩:=ju;simp [XD,run_underlying underlying51,sizeOf,typeInfo,hi,hz,hs,Instr.fill,newRow,go_sem,JP,Py.row]
theorem tB {o:Oper}{a:Act}{w:Zc}{K:Act->Zc->Prop}{Q:Exit->Act->Zc->Prop}(x:YN)(p:Py)(ho:o.op= .buildSlice 51 1 #[(0,x)])(hx:a.eval x= .agg (JP p))
  (h:K (a.put o.dst (.slice (some ⟨w.heap.size,0,none⟩) 1 1)) (w.alloc (.cells (JP p) 252))) :o.wp Zb a w K Q:=by
 unfold Jp XL;simp only [ho,JI,YY,KG,hx,Yr,nL p w,ZW,YU];exact h
theorem Oh {ops:Array Oper}{rest:List Oper}{o:Oper}{a:Act}{w:Zc}{Q:Exit->Act->Zc->Prop}(BJ:o.guard=none)(x:YN)(p:Py)(ho:o.op= .buildSlice 51 1 #[(0,x)])(hx:a.eval x= .agg (JP p))
  (h:wpList Zb ops Q rest (a.put o.dst (.slice (some ⟨w.heap.size,0,none⟩) 1 1)) (w.alloc (.cells (JP p) 252))) :wpList Zb ops Q (o::rest) a w:=
 wpList_plain BJ fun _ hK=>tB x p ho hx (hK _ _ h)
end
end Go.Proofs.YtobgbcdgffgdhaaGreat
