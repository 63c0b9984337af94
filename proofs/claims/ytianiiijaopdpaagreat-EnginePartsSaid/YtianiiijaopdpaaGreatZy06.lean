/- Part 6 of 29: L07Excl L07Two L07AddV L07SetV L07SetO L07SetW L07AllV L16Pair L16Plain Whole WrapW L07Refs Seqs L17Py. -/
import Derived.Test.YtianiiijaopdpaaGreatZy00
import Derived.Test.YtianiiijaopdpaaGreatZy05
namespace Go.Proofs.YtianiiijaopdpaaGreat
set_option linter.unusedVariables false
set_option linter.unusedSimpArgs false
set_option maxRecDepth 100000
set_option maxHeartbeats 8000000
open _root_.Array renaming all_eq_true_iff_forall_mem → ZT, replicate → Qv
open _root_.Go.RowKit renaming Below → Zs
open _root_.Go.RowKit.Below renaming refl → Zp
open _root_.Go.Proofs.YtianiiijaopdpaaGreat.Blk renaming alloc → YA, drew → Ko, drewN → Xy, new → Zv
open _root_.Bool renaming and_eq_true → YZ
open _root_.Go renaming Calls → Zj, NoPanic → QE, Operand → Yz, Program → YO, TypeId → ZN, Value → Zl, World → Zc, execOp → Xn, heap_alloc_new → ZG, ready_mono → UD, run_eqGuard_agg → Kn, run_part_plain → Qj, wpList_store_row → Zo, wpQuiet → ZW
open _root_.Go.Instr renaming buildSlice → Xc
open _root_.Int renaming toNat_natCast → YX
open _root_.Go.Proofs.YtianiiijaopdpaaGreat.Kept renaming of_below → YP, refl → ZH
open _root_.Go.Lib renaming hid → Za
open _root_.List renaming append_assoc → XU, cons_append → Yh, eq_nil_of_length_eq_zero → ZU, flatMap_cons → Jf, getD_eq_getElem?_getD → Zq, getElem?_eq_getElem → Zf, getElem?_eq_some_iff → Zi, getElem?_map → ZP, getElem?_set_ne → YB, length_set → Xt, length_take → Xl, map_cons → Y2, map_nil → J6, map_toArray → Q3, mem_cons → ZY, mem_of_getElem? → ZB, not_mem_nil → Yf, take_add_one → YR, take_append_drop → QJ
open _root_.Nat renaming le_refl → Zg, mul_le_mul_right → XV
open _root_.Ne renaming symm → QD
open _root_.Go.Op renaming eqFields → Vf, equalIn → Vo
open _root_.Go.Oper renaming wp → Jj
open _root_.Option.some renaming injEq → Qk
open _root_.Go.Region renaming Mode → Kd, binds → Xp, noSelect → Qh, ready → Yw
open _root_.Go.Result renaming andThen_ok → ZQ
open _root_.Go.Sem renaming run_bind → Yi, run_pure → YC
open _root_.Go.Proofs.Tryz renaming prog → Zb, underlying143 → J1, underlying46 → Uk, underlying63 → Zr
open _root_.Go.Value renaming ownBlock → Y4, slice → Yj
open _root_.Go.World.ownsRow renaming alloc → QI
open _root_.Go.World renaming setRow_alloc_new → Zu
theorem LD {G:Prop}(h:G:=by simp only; omega) :G:=h
theorem gl {G:Prop}(h:G:=by have:=Blk.new (w.alloc (.cells #[.pointer (some ⟨b,0,none⟩)] 88)) 63 (Zd v); simpa using this) :G:=h
theorem UH {G:Prop}(h:G:=by unfold maxLen; omega) :G:=h
theorem DP {G H:Prop} (k:H) (h:BZ H→G:=by
  intro zk;iterate 3 (go_big_quiet_step ((intros; rfl)))
  exact zk.out) :G:=h ⟨k⟩
theorem Zfo {G H:Prop} (k:H) (h:BZ H→G:=by
  intro zk;refine headF_takes (fun w'=>w'.cell? ⟨n0,0,none⟩=some (.pointer (some ⟨b,0,none⟩))∧w'.cell? ⟨b,4,none⟩=some (.int .u64 T)∧w'.cell? ⟨n0+2,0,none⟩=some (.int .u64 Qo.bal)∧w'.cell? ⟨n0+1,0,none⟩=some (.int .u64 v.bal)) (m:=15) (f:=6) [0,1,2,3,4,5,6,7,8] (fun _ _=>trivial) Ye Mu.out ?_;exact zk.out) :G:=h ⟨k⟩
theorem Zfp {G H:Prop} (k:H) (h:BZ H→G:=by
  intro zk;refine hfT (fun w'=>w'.cell? ⟨n0,0,none⟩=some (.pointer (some ⟨b,0,none⟩))∧w'.cell? ⟨b,4,none⟩=some (.int .u64 T)∧w'.cell? ⟨n0+2,0,none⟩=some (.int .u64 Qo.bal)∧w'.cell? ⟨n0+1,0,none⟩=some (.int .u64 v.bal)) (m:=4) (f:=0) [11,12,13,14] S3 ?_;exact zk.out) :G:=h ⟨k⟩
theorem Is {G H:Prop} (k:H) (h:BZ H→G:=by
  intro zk;show wpQuiet _ _ _ _ [_,_,_,_,_,_] _;exact zk.out) :G:=h ⟨k⟩
theorem mD {G H:Prop} (k:H) (h:BZ H→G:=by
  intro zk;show wpQuiet _ _ _ _ [_,_,_,_,_,_,_,_,_] _;exact zk.out) :G:=h ⟨k⟩
theorem zT7 {G:Prop} (h:G:=by
  clear x0 x1 c2 c3 c4 f3 f4 HB HK HE W;obtain ⟨-,-,c2,-,-⟩:=HR.out.cells;refine wqT 8 ?_;refine BA ?_;refine Zft ?_;refine Qe ?_
  repeat (go_big_quiet_step (fail))
  refine Qc ?_;intro _ JB;obtain ⟨n3,Xh⟩:=JB;subst Xh;refine NR rfl _ _ _ rfl (HR.out.2.drewN n3) Tryz.underlying3 Tryz.underlying185 v.st (cs - 1) rfl rfl rfl HW.out ?_;intro W3 kO hg3;have HZ:=Lib.hid (And.intro ((HR.out.drewN n3).counted kO hg3) ((M4.out.drewN n3).trans (Kept.of_grown (S:=fun i=>i=m) hg3 (fun i hi=>by injection hi)) (fun i _ e=> .inr e)));have c23:=(c2:W2.cell? ⟨b,2,none⟩=_);have z1:W3.cell? ⟨n0,1,none⟩=some (.int .i64 v.st):=(World.cell?_of_block (w:=W2) (a:=⟨n0,1,none⟩) (hg3.block n0 (cell_lt y1) (by intro e; injection e with e; subst e; obtain ⟨es,clock,hm,_⟩:=HR.out.2; simp [World.cell?,hm] at y1))).trans y1;have HC3:=Lib.hid kO;clear kO hg3 y1 c2 c23;have d2:=HZ.out.1.cells.2.2.1;have GU:OF c v.st (cs - 1) v.st=cs - 1:=by simp [OF]
  have HS:=Lib.hid GU;clear GU;go_wp2;simp only [Act.put];refine XB (fun w'=> ∃n,w'=W3.drewN n) Ye Ye ⟨1,rfl⟩ ?_;iterate 6 (go_big_quiet_step (fail))
  refine iQ _ _ rfl rfl (fun w h=>by obtain ⟨n,rfl⟩:=h; exact HC3.out.drewN n) Tryz.underlying3 Tryz.underlying185 zero_int v.st rfl rfl HW.out ?_;rw [HS.out];refine Qe ?_
  repeat (go_big_quiet_step (fail))
  refine Qc ?_;intro _ JB;obtain ⟨n4,Xh⟩:=JB;subst Xh
  by_cases hz:((cs - 1:Int)==0)=true
  ·go_wp2_with fail;refine wqT 6 ?_;refine BA ?_
   repeat (go_big_quiet_step (fail))
   refine Qc ?_;intro _ JB;obtain ⟨n5,Xh⟩:=JB;subst Xh;refine TE rfl _ _ rfl ((HC3.out.drewN n4).drewN n5) Tryz.underlying3 Tryz.underlying185 v.st rfl rfl HW.out (by rw [HS.out]; simpa using hz) ?_;intro W4 hc4 hg4;have HY:=Lib.hid (And.intro (J0.counted ((HZ.out.1.drewN n4).drewN n5) hc4 hg4) (((HZ.out.2.drewN n4).drewN n5).trans (Kept.of_grown (S:=fun i=>i=m) hg4 (fun i hi=>by injection hi)) (fun i _ e=> .inr e)));clear hc4 hg4;go_wp2;go_end0;exact ⟨rfl,HY.out⟩
  ·have hz:((cs - 1:Int)==0)=false:=by simpa using hz
   go_wp2_with fail;go_end0;exact ⟨rfl,HZ.out.1.drewN n4,HZ.out.2.drewN n4⟩) :G:=h
theorem zT9 {G:Prop} (h:G:=by
  have hI:=Tryz.underlying3;have p0:(part 3 (cellsP x) 0).run Tryz.prog w= .ok (.int .i64 x.1) w:=run_part_plain w (UW hI) rfl;have p1:(part 3 (cellsP x) 1).run Tryz.prog w= .ok (.int .i64 x.2) w:=run_part_plain w (UW hI) rfl;have q0:(part 3 (cellsP y) 0).run Tryz.prog w= .ok (.int .i64 y.1) w:=run_part_plain w (UW hI) rfl;have q1:(part 3 (cellsP y) 1).run Tryz.prog w= .ok (.int .i64 y.2) w:=run_part_plain w (UW hI) rfl;have e0:(Op.equalIn 9999 3 (.int .i64 x.1) (.int .i64 y.1)).run Tryz.prog w=_:=run_equalIn_int (P:=Tryz.prog) w 9998 _ .i64 .i64 x.1 y.1 hI;have e1:(Op.equalIn 9999 3 (.int .i64 x.2) (.int .i64 y.2)).run Tryz.prog w=_:=run_equalIn_int (P:=Tryz.prog) w 9998 _ .i64 .i64 x.2 y.2 hI;rw [show List.range 2=[0,1] from rfl];simp only [Op.eqItems,Sem.run_bind,Nat.zero_mul,Nat.one_mul,p0,q0,e0,Result.andThen_ok]
  by_cases h0:x.1=y.1
  ·have hb:(x.1==y.1)=true:=by simpa using h0
   simp [hb,p1,q1,e1]
   by_cases h1:x.2=y.2 <;> simp [h0,h1,Prod.ext_iff]
  ·simp [h0,Prod.ext_iff]) :G:=h
theorem ZfL {G:Prop} (h:G:=by
  have e1:=J3 hi ZZ;have e2:=Fp hi ZZ;have e3:=WJ hi ⟨0,Qo.st+1,false,0,0,0,0⟩ Qo.st;have vx: ∀x ∈ l.set i ZZ,Yo x:=fun x hx=>by
   rcases List.mem_or_eq_of_mem_set hx with hx | rfl
   ·exact hf x hx
   ·exact ⟨by decide,by decide⟩
  have a1:=Ka vx;have a2:=Dh vx;have a3:=UN (l.set i ⟨0,Qo.st+1,false,0,0,0,0⟩) Qo.st;have z1:ZZ.bal=0:=rfl;have z2:XJ ZZ=0:=rfl;simp only [if_true] at e3;rw [if_neg Zm] at e3;refine ⟨by omega,by omega,by omega,by omega⟩) :G:=h
theorem Zgh {G:Prop} (h:G:=by
  rw [←hw3];exact ⟨ZF _ Mu.out.1,ZF _ Mu.out.2.1,ZF _ Mu.out.2.2.1,ZF _ Mu.out.2.2.2⟩) :G:=h
theorem Zgk {G:Prop} (h:G:=by
  cases hi:Tryz.prog.info? 61 with
  | none=>rw [hi] at h; cases h
  | some i=>
   rw [hi] at h;simp at h;exact ⟨i,rfl,h.1,h.2.1,h.2.2⟩) :G:=h
theorem Zgt {G:Prop} (h:G:=by
  have:=h.1;unfold Blk at this;rw [h3] at this;injection this with this;injection this with _ h9;exact absurd h9 YU) :G:=h
theorem rM {G:Prop} (h:G:=by
  refine ⟨h.1,h.2.imp id ?_⟩;rintro ⟨g,cp,cur,rfl,h1,h2⟩;exact ⟨g,cp,cur,rfl,by omega,h2⟩) :G:=h
theorem zq {G:Prop} (h:G:=by
  refine ⟨h.1,h.2.imp id ?_⟩;rintro ⟨g,cp,cur,rfl,h1,h2⟩;exact ⟨g,cp,cur,rfl,hB g rfl,h2⟩) :G:=h
theorem rZ {G:Prop} (h:G:=by
  rw [List.getD_eq_getElem?_getD,List.getElem?_eq_getElem Zm];rfl) :G:=h
theorem zN {G:Prop} (h:G:=by
  rw [←Np];exact ⟨ZF _ X4.out,ZF _ Y0.out⟩) :G:=h
theorem jC {G:Prop} (h:G:=by
  rw [List.getElem?_set_ne KF];exact hj) :G:=h
theorem jD {G:Prop} (h:G:=by
  rcases hu with rfl | rfl | rfl <;> rfl) :G:=h
section
open Go Go.RowKit Go.Deep
theorem au (b m cap:Nat)(s:Zl)(c:Int→Int)(A T:Int)(v:Yd)(w:Zc)(h:J0 w b m s cap c A T)(hv:Yo v)(hl:D6 v.st=true)
  (PG:v.bal≤A) (hA:A≤18446744073709551615) (Cr:v.bal≤T) (hT:T≤18446744073709551615) (Ol:1≤c v.st) (Om:c v.st≤4096) :
  Dn Zb 242 #[.pointer (some ⟨b,0,none⟩),.agg (Zd v)] w fun e w'=>e= .returned (.tuple #[])∧J0 w' b m s cap (OF c v.st (c v.st - 1)) (A - v.bal) (T - v.bal)∧Kept (fun i=>i=b∨i=m) w w':=by
 have HL:Hid (∀w,Zj Zb 276 #[.int .i64 v.st] w fun e w'=>e= .returned (.bool true)∧w=w'):=Za (fun w=>by have:=Nu v.st w; rwa [hl] at this);have hK:Kept (fun i=>i=b∨i=m) w (w.alloc (.cells (Zd v) 63)):=(ZH _ w).alloc _;have hE:Blk (w.alloc (.cells (Zd v) 63)) w.heap.size 63 (Zd v):=Zv _ _ _;have KF: ¬w.heap.size=b:=by have:=h.1.lt; omega
 have HB:=Za (h.alloc (.cells (Zd v) 63));have x0:(w.alloc (.cells (Zd v) 63)).cell? ⟨w.heap.size,0,none⟩=some (.int .u64 v.bal):=hE.cell 0;have x1:(w.alloc (.cells (Zd v) 63)).cell? ⟨w.heap.size,1,none⟩=some (.int .i64 v.st):=hE.cell 1;obtain ⟨-,-,c2,c3,c4⟩:=HB.out.cells;have f3:=HB.out.1.frozen 3;have f4:=HB.out.1.frozen 4;have v0:=hv.bal.1;have HE:=Za hE;have HK:=Za hK;have HW:=Za hv.2;obtain ⟨cs,Fi⟩ : ∃q,c v.st=q:=⟨_,rfl⟩;rw [Fi] at Ol Om ⊢;have zX:=Za Fi;obtain ⟨n0,Mm⟩ : ∃n,w.heap.size=n:=⟨_,rfl⟩;have mV: ¬n0=b:=by rw [←Mm]; exact KF
 clear KF;clear h hE hK hv hl Fi;refine Cc Tryz.func242 rfl ?_;simp only [Tryz.ntmps242,List.size_toArray,List.length_cons,List.length_nil,Nat.reduceAdd,Nat.reduceSub,Array.replicate_succ,Array.replicate_zero,List.push_toArray,List.append_toArray,List.nil_append,List.cons_append];go_wp2;generalize w.alloc (.cells (Zd v) 63)=W at*;rw [Mm] at*;refine wqT 9 ?_;refine BA ?_
 repeat (go_big_quiet_step (fail))
 refine Qc ?_;intro _ JB;obtain ⟨n1,Xh⟩:=JB;subst Xh;go_wp2_with fail;refine (HL.out _).mono ?_;rintro e w2 ⟨rfl,rfl⟩;go_wp2_with fail;refine wqT 9 ?_;refine BA ?_
 repeat (go_big_quiet_step (fail))
 refine Qc ?_;intro _ JB;obtain ⟨n2,Xh⟩:=JB;subst Xh;go_wp2_with fail;have HR:=Za ((((HB.out.drewN n1).total (T - v.bal)).drewN n2).active (A - v.bal));have M4:Hid (Kept (fun i=>i=b∨i=m) w ((((W.drewN n1).setCell ⟨b,4,none⟩ (.int .u64 (T - v.bal))).drewN n2).setCell ⟨b,3,none⟩ (.int .u64 (A - v.bal)))):=Za ((((HK.out.drewN n1).setCell (.inl (.inl rfl)) _).drewN n2).setCell (.inl (.inl rfl)) _);have y1:((((W.drewN n1).setCell ⟨b,4,none⟩ (.int .u64 (T - v.bal))).drewN n2).setCell ⟨b,3,none⟩ (.int .u64 (A - v.bal))).cell? ⟨n0,1,none⟩=some (.int .i64 v.st):=(Blk.far (Xy (Blk.far (Xy HE.out n1) mV _) n2) mV _).cell 1;generalize (((W.drewN n1).setCell ⟨b,4,none⟩ (.int .u64 (T - v.bal))).drewN n2).setCell ⟨b,3,none⟩ (.int .u64 (A - v.bal))=W2 at*;exact zT7
theorem ar (b m cap:Nat)(s:Zl)(c:Int→Int)(A T:Int)(v:Yd)(w:Zc)(h:J0 w b m s cap c A T)(hv:Yo v)(hl:D6 v.st=false)
  (Cr:v.bal≤T) (hT:T≤18446744073709551615) (Ol:1≤c v.st) (Om:c v.st≤4096) :
  Dn Zb 242 #[.pointer (some ⟨b,0,none⟩),.agg (Zd v)] w fun e w'=>e= .returned (.tuple #[])∧J0 w' b m s cap (OF c v.st (c v.st - 1)) A (T - v.bal)∧Kept (fun i=>i=b∨i=m) w w':=by
 have HL:Hid (∀w,Zj Zb 276 #[.int .i64 v.st] w fun e w'=>e= .returned (.bool false)∧w=w'):=Za (fun w=>by have:=Nu v.st w; rwa [hl] at this);have hK:Kept (fun i=>i=b∨i=m) w (w.alloc (.cells (Zd v) 63)):=(ZH _ w).alloc _;have hE:Blk (w.alloc (.cells (Zd v) 63)) w.heap.size 63 (Zd v):=Zv _ _ _;have KF: ¬w.heap.size=b:=by have:=h.1.lt; omega
 have HB:=Za (h.alloc (.cells (Zd v) 63));have x0:(w.alloc (.cells (Zd v) 63)).cell? ⟨w.heap.size,0,none⟩=some (.int .u64 v.bal):=hE.cell 0;have x1:(w.alloc (.cells (Zd v) 63)).cell? ⟨w.heap.size,1,none⟩=some (.int .i64 v.st):=hE.cell 1;obtain ⟨-,-,c2,c3,c4⟩:=HB.out.cells;have f3:=HB.out.1.frozen 3;have f4:=HB.out.1.frozen 4;have v0:=hv.bal.1;have HE:=Za hE;have HK:=Za hK;have HW:=Za hv.2;obtain ⟨cs,Fi⟩ : ∃q,c v.st=q:=⟨_,rfl⟩;rw [Fi] at Ol Om ⊢;have zX:=Za Fi;obtain ⟨n0,Mm⟩ : ∃n,w.heap.size=n:=⟨_,rfl⟩;have mV: ¬n0=b:=by rw [←Mm]; exact KF
 clear KF;clear h hE hK hv hl Fi;refine Cc Tryz.func242 rfl ?_;simp only [Tryz.ntmps242,List.size_toArray,List.length_cons,List.length_nil,Nat.reduceAdd,Nat.reduceSub,Array.replicate_succ,Array.replicate_zero,List.push_toArray,List.append_toArray,List.nil_append,List.cons_append];go_wp2;generalize w.alloc (.cells (Zd v) 63)=W at*;rw [Mm] at*;refine wqT 9 ?_;refine BA ?_
 repeat (go_big_quiet_step (fail))
 refine Qc ?_;intro _ JB;obtain ⟨n1,Xh⟩:=JB;subst Xh;go_wp2_with fail;refine (HL.out _).mono ?_;rintro e w2 ⟨rfl,rfl⟩;go_wp2_with fail;have HR:=Za ((HB.out.drewN n1).total (T - v.bal));have M4:Hid (Kept (fun i=>i=b∨i=m) w ((W.drewN n1).setCell ⟨b,4,none⟩ (.int .u64 (T - v.bal)))):=Za ((HK.out.drewN n1).setCell (.inl (.inl rfl)) _);have y1:((W.drewN n1).setCell ⟨b,4,none⟩ (.int .u64 (T - v.bal))).cell? ⟨n0,1,none⟩=some (.int .i64 v.st):=(Blk.far (Xy HE.out n1) mV _).cell 1;generalize (W.drewN n1).setCell ⟨b,4,none⟩ (.int .u64 (T - v.bal))=W2 at*;exact zT7
theorem aq (b m cap:Nat)(s:Zl)(c:Int→Int)(A T:Int)(v:Yd)(w:Zc)(h:J0 w b m s cap c A T)(hv:Yo v)
  (PG:XJ v≤A) (hA:A≤T) (Cr:v.bal≤T) (hT:T≤18446744073709551615) (Ol:1≤c v.st) (Om:c v.st≤4096) :
  Dn Zb 242 #[.pointer (some ⟨b,0,none⟩),.agg (Zd v)] w fun e w'=>e= .returned (.tuple #[])∧J0 w' b m s cap (OF c v.st (c v.st - 1)) (A - XJ v) (T - v.bal)∧Kept (fun i=>i=b∨i=m) w w':=by
 have v0:=hv.bal.1
 cases hl:D6 v.st with
 | true=>
  have e:XJ v=v.bal:=by simp [XJ,hl]
  rw [e] at PG ⊢;exact au b m cap s c A T v w h hv hl PG Zm Cr hT Ol Om
 | false=>
  have e:A - XJ v=A:=by simp [XJ,hl]
  rw [e];exact ar b m cap s c A T v w h hv hl Cr hT Ol Om
end
section
open Go Go.RowKit Go.Deep
theorem rv:(Tryz.prog.info? 63).map (fun i=>(i.zero,i.size))=some (some (.agg (Zd ZZ)),7):=by kernel_rfl
section
variable {P:YO}
theorem MP (w:Zc)(T e:ZN)(i:TypeInfo)(z:Zl)(v:Yd)(ht:P.underlying T=some (.slice e))(hi:P.info? e=some i)(hz:i.zero=some z)(hs:i.size=7) :
  (Xc T 1 #[(0,.agg (Zd v))]).run P w= .ok (.slice (some ⟨w.heap.size,0,none⟩) 1 1) (w.alloc (.cells (Zd v) e)):=by
 simp [Xc,run_underlying ht,sizeOf,typeInfo,hi,hs,zeroValue,hz,Instr.fill,newRow,Value.cells,Zd,Yd.row];simp [go_sem]
theorem NT {o:Oper}{a:Act}{w:Zc}{K:Act→Zc→Prop}{Q:Exit→Act→Zc→Prop}(T e:ZN)(x:Yz)(z:Zl)(v:Yd)(ho:o.op= .buildSlice T 1 #[(0,x)])(hx:a.eval x= .agg (Zd v))(ht:P.underlying T=some (.slice e))(hI:(P.info? e).map (fun i=>(i.zero,i.size))=some (some z,7))
  (h:K (a.put o.dst (.slice (some ⟨w.heap.size,0,none⟩) 1 1)) (w.alloc (.cells (Zd v) e))) :o.wp P a w K Q:=by
 obtain ⟨i,hi,hz,hs⟩:=Ns hI;unfold Jj Xn;simp only [ho,Q3,Y2,J6,hx,Yi,MP w T e i z v ht hi hz hs,ZQ,YC];exact h
end
theorem ll (w:Zc)(v:Yd)(t:ZN) : ∀j u,v.row[j]?=some u→(w.alloc (.cells (Zd v) t)).cell? ((⟨w.heap.size,0,none⟩ :Addr).add j)=some u:=fun j u hu=>by
 rw [add_plain];have:=(Zv w t (Zd v)).range j u hu;exact this
theorem Ie: ∃i,Tryz.prog.info? 63=some i∧i.zero=some (.agg (Zd ZZ))∧i.size=7∧i.bytes=56:=by
 have h:(Tryz.prog.info? 63).map (fun i=>(i.zero,i.size,i.bytes))=some (some (.agg (Zd ZZ)),7,56):=by kernel_rfl
 cases hi:Tryz.prog.info? 63 with
 | none=>rw [hi] at h; cases h
 | some i=>
  rw [hi] at h;simp at h;exact ⟨i,rfl,h.1,h.2.1,h.2.2⟩
end
section
open Go Go.RowKit Go.Deep
theorem jK (b cap cp:Nat)(a:Option Addr)(v:Yd)(w:Zc)(h0:w.cell? ⟨b,0,none⟩=some (.int .i64 cap))(h1:w.cell? ⟨b,1,none⟩=some (.slice a cap cp)) :
  Zj Zb 181 #[.pointer (some ⟨b,0,none⟩),.agg (Zd v)] w fun e w'=>e= .returned (.tuple #[.int .i64 (-1),.int .i64 5])∧Zs w.heap.size w w':=by
 have x0:=ZF (.cells (Zd v) 63) h0;have x1:=ZF (.cells (Zd v) 63) h1;clear h0 h1;go_enter_defers Tryz.func181,Tryz.ntmps181;go_wp2;exact ⟨_,results_tmp2 rfl _ _ _,rfl,(Zp _ _).alloc (Zg _) _⟩
theorem jL (b cap cp n:Nat)(a:Option Addr)(T:Int)(v:Yd)(w:Zc)(h0:w.cell? ⟨b,0,none⟩=some (.int .i64 cap))(h1:w.cell? ⟨b,1,none⟩=some (.slice a n cp))(h4:w.cell? ⟨b,4,none⟩=some (.int .u64 T))
  (hn:n < cap) (hc:cap≤4096) (hv:Yo v) (Cr:0≤T) (yE:T≤18446744073709551615) (hT:18446744073709551615 < T+v.bal) :
  Zj Zb 181 #[.pointer (some ⟨b,0,none⟩),.agg (Zd v)] w fun e w'=>e= .returned (.tuple #[.int .i64 (-1),.int .i64 10])∧Zs w.heap.size w w':=by
 have x0:=ZF (.cells (Zd v) 63) h0;have x1:=ZF (.cells (Zd v) 63) h1;have x4:=ZF (.cells (Zd v) 63) h4;have hB:Zs w.heap.size w (w.alloc (.cells (Zd v) 63)):=(Zp _ _).alloc (Zg _) _;have y0:(w.alloc (.cells (Zd v) 63)).cell? ⟨w.heap.size,0,none⟩=some (.int .u64 v.bal):=(Zv w 63 (Zd v)).cell 0;obtain ⟨v0,v1⟩:=hv.bal;have hnc:((n:Int)==(cap:Int))=false:=by simp; omega
 have X4:=Za x4;have Y0:=Za y0;have HB:=Za hB;clear h0 h1 h4 x4 y0 hB hv;go_enter_defers Tryz.func181,Tryz.ntmps181;go_wp2;generalize w.alloc (.cells (Zd v) 63)=W at*;refine M0 (fun _=>True) 12 12 [] trivial ?_;refine Qc ?_;refine headF_takes (fun w'=>w'.cell? ⟨b,4,none⟩=some (.int .u64 T)∧w'.cell? ⟨w.heap.size,0,none⟩=some (.int .u64 v.bal)) (m:=12) (f:=6) [0,1,2,3,4,5] (fun _ _=>trivial) Ye ⟨X4.out,Y0.out⟩ ?_;refine Kg ?_;refine Is ?_;refine DP ?_;refine YJ 22 _ _ (.int .u64 T) rfl rfl rfl (fun w h=>by simp [go_sem,h]) (fun w h=>h.1) ?_;refine Qe ?_;refine GN ?_;refine YJ 22 _ _ (.int .u64 v.bal) rfl rfl rfl (fun w h=>by simp [go_sem,h]) (fun w h=>h.2) ?_;refine Qe ?_;refine Qc ?_;refine Mb ?_;refine YD rfl rfl (QO 143 22 (.tmp 26) (.tmp 28) _ _ (.int .u64 T) (.int .u64 v.bal) rfl rfl rfl J1 Ff rfl rfl rfl ⟨⟨ZF _ X4.out,ZF _ Y0.out⟩,?_⟩);refine hfO (i:=7) ?_;refine Dg ?_;refine JZ #[.slice (some ⟨W.drew.heap.size,0,none⟩) 2 2] Tryz.call23 ((RB W.drew.heap.size T v.bal _ (Zv W.drew _ _) Cr yE v0 v1 Zm).mono ?_);rintro e w2 ⟨rfl,Np⟩;have B2:Zs w.heap.size w w2:=Np▸HB.out.drew.alloc HB.out.size _;have S2:w2.cell? ⟨b,4,none⟩=some (.int .u64 T)∧w2.cell? ⟨w.heap.size,0,none⟩=some (.int .u64 v.bal):=by exact zN
 refine ⟨_,rfl,S2,?_⟩;clear Np;refine Dg ?_;refine hfT (fun w'=>w'.cell? ⟨b,4,none⟩=some (.int .u64 T)∧w'.cell? ⟨w.heap.size,0,none⟩=some (.int .u64 v.bal)) (m:=4) (f:=0) [8,9,10,11] S2 ?_;refine Kg ?_;refine Ma ?_;refine BN ?_;refine Qc ?_;refine Bn ?_;refine ⟨by kernel_rfl,?_⟩;refine LY ?_;go_wp2;refine GM ?_;go_wp2;exact ⟨_,results_tmp2 rfl _ _ _,rfl,B2⟩
theorem tW (b cap m:Nat)(s:Zl)(l:List Yd)(v:Yd)(w:Zc)(h:J0 w b m s cap (Xj l) (Yy l) (Zz l))(ho:w.ownsRow 0 63 7 s l.length (XD l))
  (hn:l.length < cap) (hc:cap≤4096) (hf: ∀x ∈ l,Yo x) (hv:Yo v) (hT:Zz l+v.bal≤18446744073709551615) :
  Zj Zb 181 #[.pointer (some ⟨b,0,none⟩),.agg (Zd v)] w fun e w'=>e= .returned (.tuple #[.int .i64 l.length,.int .i64 0])∧ ∃s',J0 w' b m s' cap (Xj (l++[v])) (Yy (l++[v])) (Zz (l++[v]))∧w'.ownsRow 0 63 7 s' (l.length+1) (XD (l++[v]))∧
   (s'.ownBlock=s.ownBlock∨ ∃q,s'.ownBlock=some q∧w.heap.size≤q)∧Kept (fun i=>i=b∨i=m∨s.ownBlock=some i) w w':=by
 obtain ⟨a,cp,rfl,ph,pj⟩:=UB ho;obtain ⟨PG,hA⟩:=Dh hf;have Cr:=Ka hf;have hcb:=UN l v.st;obtain ⟨v0,v1⟩:=hv.bal;have HB:=Za (h.alloc (.cells (Zd v) 63));have HO:=Za (ho.alloc (.cells (Zd v) 63));have tK:Hid (∀i,(Yj a l.length cp).ownBlock=some i→i < w.heap.size):=Za (fun i hi=>(ho.lt i hi).2);have O0:=h.1.lt;have mU:=h.2.lt;have It:Hid ((Yj a l.length cp).ownBlock≠some b∧(Yj a l.length cp).ownBlock≠some m):=Za (by
  rcases ho.2 with ⟨h1,_⟩ | ⟨g,BB,cur,h1,_,h3,_⟩
  ·rw [h1]; simp [Y4]
  ·rw [h1];simp only [Y4,ne_eq,Qk];refine ⟨?_,?_⟩
   ·rintro rfl; exact Zgt
   ·rintro rfl; obtain ⟨es,clock,h9,_⟩:=h.2; rw [h3] at h9; cases h9)
 have HE:Hid (Blk (w.alloc (.cells (Zd v) 63)) w.heap.size 63 (Zd v)):=Za (Zv _ _ _);have HK:Hid (Kept (fun i=>i=b∨i=m∨(Yj a l.length cp).ownBlock=some i) w (w.alloc (.cells (Zd v) 63))):=Za ((ZH _ w).alloc _);obtain ⟨x0,x1,x2,x3,x4⟩:=HB.out.cells;have X1:=Za x1;have X4:=Za x4;have Y0:=Za (HE.out.cell 0);have hnc:((l.length:Int)==(cap:Int))=false:=by simp; omega
 have HV:=Za hv;have PK:w.heap.size≤(w.alloc (.cells (Zd v) 63)).heap.size:=by simp
 obtain ⟨n0,Mm⟩ : ∃n,w.heap.size=n:=⟨_,rfl⟩;rw [Mm] at O0 mU PK tK HE Y0;clear h ho x2 x3 x4 hf hv;go_enter_defers Tryz.func181,Tryz.ntmps181;go_wp2;generalize w.alloc (.cells (Zd v) 63)=W at*;have hWn:n0 < W.heap.size:=HE.out.lt;obtain ⟨T,hTe⟩ : ∃T,Zz l=T:=⟨_,rfl⟩;rw [hTe] at X4 hT Cr hA;refine M0 (fun _=>True) 12 12 [] trivial ?_;refine Qc ?_;refine headF_takes (fun w'=>w'.cell? ⟨b,4,none⟩=some (.int .u64 T)∧w'.cell? ⟨n0,0,none⟩=some (.int .u64 v.bal)) (m:=12) (f:=6) [0,1,2,3,4,5] (fun _ _=>trivial) Ye ⟨X4.out,Y0.out⟩ ?_;refine Kg ?_;refine Is ?_;refine DP ?_;refine YJ 22 _ _ (.int .u64 T) rfl rfl rfl (fun w h=>by simp [go_sem,h]) (fun w h=>h.1) ?_;refine Qe ?_;refine GN ?_;refine YJ 22 _ _ (.int .u64 v.bal) rfl rfl rfl (fun w h=>by simp [go_sem,h]) (fun w h=>h.2) ?_;refine Qe ?_;refine Qc ?_;refine Mb ?_;refine YD rfl rfl (QO 143 22 (.tmp 26) (.tmp 28) _ _ (.int .u64 T) (.int .u64 v.bal) rfl rfl rfl J1 Ff rfl rfl rfl ⟨⟨ZF _ X4.out,ZF _ Y0.out⟩,?_⟩);refine hfO (i:=7) ?_;refine Dg ?_;refine JZ #[.slice (some ⟨W.drew.heap.size,0,none⟩) 2 2] Tryz.call23 ((RD W.drew.heap.size T v.bal _ (Zv W.drew _ _) Cr v0 hT).mono ?_);rintro e w2 ⟨rfl,Np⟩;have S2:w2.cell? ⟨b,4,none⟩=some (.int .u64 T)∧w2.cell? ⟨n0,0,none⟩=some (.int .u64 v.bal):=by exact zN
 refine ⟨_,rfl,S2,?_⟩;have H2:Hid (J0 w2 b m (.slice a l.length cp) cap (Xj l) (Yy l) T∧w2.ownsRow 0 63 7 (.slice a l.length cp) l.length (XD l)∧Blk w2 n0 63 (Zd v)∧Kept (fun i=>i=b∨i=m∨(Yj a l.length cp).ownBlock=some i) w w2∧W.heap.size≤w2.heap.size):=
  Za (Np▸⟨by rw [←hTe]; exact (HB.out.drewN 1).alloc _,QI (w:=W.drew) HO.out _,YA (Ko HE.out) _,(HK.out.drew).alloc _,by simp⟩)
 clear Np HB HO HE HK X1 X4 Y0 x0 x1;refine Dg ?_;refine hfT (fun w'=>w'.cell? ⟨b,4,none⟩=some (.int .u64 T)∧w'.cell? ⟨n0,0,none⟩=some (.int .u64 v.bal)) (m:=4) (f:=0) [8,9,10,11] S2 ?_;refine Kg ?_;refine Ma ?_;refine BN ?_;refine Qc ?_;refine Bn ?_;refine ⟨by kernel_rfl,?_⟩;refine LY ?_;go_wp2;refine GM ?_;go_wp2_with (refine XT rfl 63 _ rfl n0 0 rfl v _ H2.out.2.2.1.range Zr rfl Ym ?_);have S3:=H2.out.1.cells.2.1;have S4:=H2.out.2.2.1.range;have hle:w2.heap.size≤w2.drew.heap.size:=Zg _;refine M0 (fun _=>True) 10 10 [] trivial ?_;refine Qc ?_;refine headF_takes (fun w'=>w'.cell? ⟨b,1,none⟩=some (.slice a l.length cp)∧w'.rangeAt n0 0 v.row) (m:=10) (f:=4) [0,1,2,3,4,5] (fun _ _=>trivial) Ye ⟨S3,S4⟩ ?_;refine Kg ?_;refine Is ?_;refine BN ?_;refine YJ 46 _ _ (.slice a l.length cp) rfl rfl rfl (fun w h=>by simp [go_sem,h]) (fun w h=>h.1) ?_;refine Qe ?_;refine JQ 63 (.tmp 3) n0 0 v _ rfl rfl rfl (fun w h=>h.2) Zr rfl Ym ?_;refine Qe ?_;refine Qc ?_;refine Mb ?_;refine YD rfl rfl (NT 46 63 (.tmp 42) _ v rfl rfl Uk rv ⟨⟨ZF _ S3,fun j u hu=>ZF _ (S4 j u hu)⟩,?_⟩);refine hfO (i:=7) ?_;refine Dg ?_;obtain ⟨i,hi,hz,vw,LJ⟩:=Ie;refine YD rfl rfl (EC _ (.tmp 41) (.tmp 43) 46 rfl 0 63 i _ 7 56 Uk hi hz vw LJ (OV _) Zm (.slice a l.length cp) l.length (XD l) rfl (QI (w:=w2.drew) H2.out.2.1 _)
  (some ⟨w2.drew.heap.size,0,none⟩) 1 1 v.row rfl rfl (fun _=>⟨_,rfl,ll _ _ _⟩) (row_one v) UH Zm Zm ?_)
 intro s' w3 ho3 hg3 hs3;obtain ⟨a',BB,rfl,-,-⟩:=UB ho3;have H3:Hid (J0 w3 b m (.slice a l.length cp) cap (Xj l) (Yy l) T∧w3.ownsRow 0 63 7 (.slice a' (l.length+1) BB) (l.length+1) (XD (l++[v]))∧Kept (fun i=>i=b∨i=m∨(Yj a l.length cp).ownBlock=some i) w w3∧((Yj a' (l.length+1) BB).ownBlock=(Yj a l.length cp).ownBlock∨ ∃q,(Yj a' (l.length+1) BB).ownBlock=some q∧n0≤q)∧(Yj a' (l.length+1) BB).ownBlock≠some b∧(Yj a' (l.length+1) BB).ownBlock≠some m):=by
  have e1:J0 (w2.drew.alloc (.cells (Zd v) 63)) b m (.slice a l.length cp) cap (Xj l) (Yy l) T:=(H2.out.1.drewN 1).alloc _;have k1:Kept (fun i=>i=b∨i=m∨(Yj a l.length cp).ownBlock=some i) w (w2.drew.alloc (.cells (Zd v) 63)):=(H2.out.2.2.2.1.drew).alloc _;have Er:n0≤(w2.drew.alloc (.cells (Zd v) 63)).heap.size:=by have:=H2.out.2.2.2.2; simp; omega
  have Zbh:(Yj a' (l.length+1) BB).ownBlock=(Yj a l.length cp).ownBlock∨ ∃q,(Yj a' (l.length+1) BB).ownBlock=some q∧n0≤q:=hs3.imp id (fun h=>⟨_,h,Er⟩);refine Za ⟨⟨e1.1.grown hg3 (QD It.out.1),e1.2.grown hg3 (QD It.out.2)⟩,by rw [Ht,oQ]; exact ho3,k1.trans (Kept.of_grown (S:=fun i=>some i=(Yj a l.length cp).ownBlock) hg3 (fun i hi=>hi)) (fun i _ e=> .inr (.inr e.symm)),Zbh,?_,?_⟩
  ·rcases Zbh with h | ⟨q,h,hq⟩<;> rw [h]
   ·exact It.out.1
   ·intro e; injection e; omega
  ·rcases Zbh with h | ⟨q,h,hq⟩<;> rw [h]
   ·exact It.out.2
   ·intro e; injection e; omega
 have S5:=H3.out.1.cells.2.1;have S6:w3.rangeAt n0 0 v.row:=fun j u hu=>hg3.cell (ZF _ (S4 j u hu)) (by intro e; have:=tK.out n0 e.symm; omega)
 refine ⟨⟨S5,S6⟩,?_⟩;clear ho3 hg3 hs3;refine Dg ?_;refine hfT (fun w'=>w'.cell? ⟨b,1,none⟩=some (.slice a l.length cp)∧w'.rangeAt n0 0 v.row) (m:=2) (f:=0) [8,9] ⟨S5,S6⟩ ?_;refine Kg ?_;show ZW _ _ _ _ [_,_] _;refine BL ?_;refine Qc ?_;refine Bn ?_;refine ⟨by kernel_rfl,?_⟩;refine LY ?_;have Z1:=H3.out.1.1.frozen 1;have HI:=Za (O6 b m cap (.slice a' (l.length+1) BB) (Xj l) (Yy l) T v (w3.setCell ⟨b,1,none⟩ (.slice a' (l.length+1) BB)) (H3.out.1.list _) HV.out PG hA hT hcb.1 Zm);clear S2 S3 S4 S6 H2 hi hz vw LJ;go_wp2;refine GM ?_;go_wp2;refine leaves_cons (f:=236) (args:= #[.pointer (some ⟨b,0,none⟩),.agg (Zd v)]) ZI (by simp [go_sem]) ?_;refine (HI.out.2 _).mono ?_;rintro e u' w4 ⟨rfl,rfl,hr4,yP⟩;refine ⟨_,results_tmp2 rfl _ _ _,rfl,.slice a' (l.length+1) BB,?_,?_,?_,?_⟩
 ·have e1:Yy (l++[v])=Yy l+XJ v:=by rw [El]; simp [Yy]
  have e2:Zz (l++[v])=T+v.bal:=by rw [Bg,hTe]; simp [Zz]
  rw [e1,e2];refine ⟨hr4.1,hr4.2.congr (fun q=>?_)⟩;rw [Db];simp only [OF,Xj]
  by_cases hq:q=v.st
  ·subst hq; simp
  ·rw [if_neg hq,if_neg (fun e=>hq e.symm)]; omega
 ·refine K9 H3.out.2.1 (fun i hi=>?_);have h1:i≠b:=by rintro rfl; exact H3.out.2.2.2.2.1 hi
  have h2:i≠m:=by rintro rfl; exact H3.out.2.2.2.2.2 hi
  have h3:=(H3.out.2.1.lt i hi).2;rw [yP.block i (by simpa [World.setCell] using h3) (by rintro (h | h); exact h1 h; exact h2 h)];exact Below.heap_setCell _ _ _ _ h1
 ·rw [Mm];exact H3.out.2.2.2.1
 ·exact (H3.out.2.2.1.setCell (.inl (.inl rfl)) _).trans yP (fun i _ hi=>hi.elim .inl (fun h=> .inr (.inl h)))
theorem nB (b cap:Nat)(S:Nat→Prop)(l:List Yd)(v:Yd)(w:Zc)(h:Fh w b S cap l)(hv:Yo v) :
  Zj Zb 181 #[.pointer (some ⟨b,0,none⟩),.agg (Zd v)] w fun e w'=>
   (l.length=cap∧e= .returned (.tuple #[.int .i64 (-1),.int .i64 5])∧Zs w.heap.size w w')∨
   (l.length < cap∧18446744073709551615 < Zz l+v.bal∧e= .returned (.tuple #[.int .i64 (-1),.int .i64 10])∧Zs w.heap.size w w')∨
   (l.length < cap∧Zz l+v.bal≤18446744073709551615∧e= .returned (.tuple #[.int .i64 l.length,.int .i64 0])∧ ∃S',Fh w' b S' cap (l++[v])∧(∀i,S' i→S i∨w.heap.size≤i)∧Kept S w w'):=by
 obtain ⟨m,s,h1,h2,h3,h4,h5,h6,h7,hS⟩:=h;obtain ⟨a,cp,rfl,_,_⟩:=UB h2;obtain ⟨x0,x1,x2,x3,x4⟩:=h1.cells
 by_cases hc:l.length=cap
 ·rw [hc] at x1;exact (jK b cap cp a v w x0 x1).mono fun e w' ⟨he,hb⟩=> .inl ⟨hc,he,hb⟩
 ·by_cases ht:Zz l+v.bal≤18446744073709551615
  ·refine (tW b cap m _ l v w h1 h2 Zm h4 h7 hv ht).mono fun e w' ⟨he,s',r1,r2,r3,r4⟩=> .inr (.inr ⟨by omega,ht,he,fun i=>i=b∨i=m∨s'.ownBlock=some i,⟨m,s',r1,by simpa using r2,h3,h4,by simp; omega,?_,?_,fun i=>Iff.rfl⟩,?_,?_⟩)
   ·rw [Bg]; simp [Zz]; omega
   ·intro x hx
    rcases List.mem_append.1 hx with hx | hx
    ·exact h7 x hx
    ·obtain rfl:=List.mem_singleton.1 hx;exact hv
   ·rintro i (rfl | rfl | hi)
    ·exact .inl ((hS _).2 (.inl rfl))
    ·exact .inl ((hS _).2 (.inr (.inl rfl)))
    ·rcases r3 with r3 | ⟨q,r3,hq⟩
     ·exact .inl ((hS i).2 (.inr (.inr (by rw [←r3]; exact hi))))
     ·rw [r3] at hi;injection hi with hi;exact .inr Zm
   ·exact r4.more (fun i _ hi=>(hS i).2 hi)
  ·exact (jL b cap cp l.length a (Zz l) v w x0 x1 x4 Zm h4 hv (Ka h7) h6 Zm).mono fun e w' ⟨he,hb⟩=> .inr (.inl ⟨by omega,by omega,he,hb⟩)
end
section
open Go Go.RowKit Go.Deep
section
variable {w a:Zc} {g t:Nat} {S:Nat→Prop}
theorem UM: ∀(vs X Y Z:List Zl) (w:Zc),Y.length=vs.length→Blk w g t (X++Y++Z).toArray→Blk (w.setCells g X.length vs) g t (X++vs++Z).toArray
 | [],X,Y,Z,w,hl,h=>by
  obtain rfl:=ZU hl;exact h
 | v::vs,X,[],Z,w,hl,h=>by simp at hl
 | v::vs,X,y::Y,Z,w,hl,h=>by
  have h1:=h.set_ X.length v;have e:((X++(y::Y)++Z).toArray).setIfInBounds X.length v=((X++[v])++Y++Z).toArray:=by
   simp [List.set_append]
  rw [e] at h1;have:=UM vs (X++[v]) Y Z _ Ip h1;simpa [World.setCells] using this
theorem Kept.setCells (vs:List Zl) : ∀(o:Nat) (w:Zc),Kept S a w→S g∨a.heap.size≤g→Kept S a (w.setCells g o vs):=by
 induction vs with
 | nil=>exact fun o w h _=>h
 | cons v vs ih=>exact fun o w h hg=>ih (o+1) _ (h.setCell hg v) hg
theorem Nz {l:List Yd}{i cp:Nat}{Qo:Yd}(h:w.ownsRow 0 63 7 (.slice (some ⟨g,0,none⟩) l.length cp) l.length (XD l))(hi:l[i]?=some Qo)(v:Yd) :
  (w.setCells g (i*7) v.row).ownsRow 0 63 7 (.slice (some ⟨g,0,none⟩) l.length cp) l.length (XD (l.set i v))∧w.there g (i*7) 7:=by
 have Fz:=(Zi.1 hi).1
 rcases h.2 with ⟨h1,_⟩ | ⟨g',BB,cur,h1,h2,h3,h4,h5,h6,h7⟩
 ·cases h1
 ·injection h1 with h1 _ ph;injection h1 with h1;injection h1 with h1;subst h1 ph;have el:l=l.take i++Qo::l.drop (i+1):=by
   have he:=(Zi.1 hi).2;rw [←he,List.getElem_cons_drop,QJ]
  have es:l.set i v=l.take i++v::l.drop (i+1):=by rw [List.set_eq_take_append_cons_drop,if_pos Fz]
  have hX:(XD (l.take i)).length=i*7:=by rw [Hv,Xl]; congr 1; omega
  have e1:XD l=XD (l.take i)++Qo.row++XD (l.drop (i+1)):=by
   conv=>lhs; rw [el]
   rw [Ht];simp [XD]
  have e2:XD (l.set i v)=XD (l.take i)++v.row++XD (l.drop (i+1)):=by
   rw [es,Ht];simp [XD]
  have e3:cur=(XD (l.take i)++Qo.row++(XD (l.drop (i+1))++cur.toList.drop (l.length*7))).toArray:=by
   rw [←XU,←e1,←h7,QJ]
  have hb:Blk w g 63 (XD (l.take i)++Qo.row++(XD (l.drop (i+1))++cur.toList.drop (l.length*7))).toArray:=by rw [←e3]; exact h3
  have GJ:=UM v.row (XD (l.take i)) Qo.row _ w rfl hb;rw [hX] at GJ;have Er:((XD (l.take i)++v.row++(XD (l.drop (i+1))++cur.toList.drop (l.length*7))).toArray).size=cur.size:=by
   conv=>rhs; rw [e3]
   simp [NH]
  refine ⟨⟨by rw [Hv,Xt],.inr ⟨g,cp,_,rfl,h2,GJ,h4,h5,Er.trans h6,?_⟩⟩,fun j hj=>⟨?_,hb.frozen _⟩⟩
  ·rw [←XU,←e2,List.toList_toArray,List.take_left' (by rw [Hv,Xt])]
  ·have hc:i*7+j < cur.size:=by
    rw [h6];have:l.length≤cp:=h4;have:(i+1)*7≤l.length*7:=XV 7 Fz;have:l.length*7≤cp*7:=XV 7 h4;omega
   have hb':Blk w g 63 cur:=h3;rw [hb'.cell,Array.getElem?_eq_getElem hc];rfl
end
theorem I2 (b m cap pR pO pV:Nat)(s:Zl)(c:Int→Int)(A T:Int)(Qo v:Yd)(w:Zc)(h:J0 w b m s cap c A T)(hR:Blk w pR 88 #[.pointer (some ⟨b,0,none⟩)])(hO:Blk w pO 63 (Zd Qo))(hV:Blk w pV 63 (Zd v))
  (ho:Yo Qo) (hv:Yo v) (PG:XJ Qo≤A) (hA:A≤T) (yA:A - XJ Qo≤T - Qo.bal) (Cr:Qo.bal≤T) (yE:T≤18446744073709551615) (hT:T - Qo.bal+v.bal≤18446744073709551615) (Ol:1≤c Qo.st) (Om:c Qo.st≤4096) (hc2:0≤c v.st) (kO:c v.st≤4096) :
  Dn Zb 241 #[.pointer (some ⟨pR,0,none⟩),.pointer (some ⟨pO,0,none⟩),.pointer (some ⟨pV,0,none⟩)] w fun e w'=>e= .returned (.tuple #[])∧
   J0 w' b m s cap (OF (OF c Qo.st (c Qo.st - 1)) v.st (OF c Qo.st (c Qo.st - 1) v.st+1)) (A - XJ Qo+XJ v) (T - Qo.bal+v.bal)∧Kept (fun i=>i=b∨i=m) w w':=by
 have KF: ∀p t cs,Blk w p t cs→t≠187→ ¬(p=b∨p=m):=fun p t cs hp ht=>by
  rintro (rfl | rfl)
  ·exact Blk.ne_ hp h.1 ht rfl
  ·obtain ⟨es,clock,h9,_⟩:=h.2;unfold Blk at hp;rw [hp] at h9; cases h9
 have nR:=KF pR _ _ hR YU;have nO:=KF pO _ _ hO YU;have nV:=KF pV _ _ hV YU;have cR:w.cell? ⟨pR,0,none⟩=some (.pointer (some ⟨b,0,none⟩)):=hR.cell 0;have HX:=Za (aq b m cap s c A T Qo w h ho PG hA Cr yE Ol Om);have HRb:=Za hR;have HOb:=Za hO;have HVb:=Za hV;have HV:=Za hv;have l0:=Sw hv.bal.1;have hq:0≤OF c Qo.st (c Qo.st - 1) v.st∧OF c Qo.st (c Qo.st - 1) v.st≤4096:=by
  unfold OF
  split <;> omega
 clear h hR hO hV ho hv KF;refine Cc Tryz.func241 rfl ?_;simp only [Tryz.ntmps241,List.size_toArray,List.length_cons,List.length_nil,Nat.reduceAdd,Nat.reduceSub,Array.replicate_succ,Array.replicate_zero,List.push_toArray,List.append_toArray,List.nil_append,List.cons_append];go_wp2_with (refine XT rfl 63 _ rfl pO 0 rfl Qo _ HOb.out.range Zr rfl Ym ?_);refine HX.out.1.mono ?_;rintro e w1 ⟨rfl,pG,P7⟩;have Iu:=Za pG;have L4:=Za P7;have HV1:=Za (HVb.out.kept P7 nV);have cR1:w1.cell? ⟨pR,0,none⟩=some (.pointer (some ⟨b,0,none⟩)):=(HRb.out.kept P7 nR).cell 0;have HI:=Za (O6 b m cap s _ _ _ v w1 pG HV.out Zm yA hT hq.1 hq.2);clear pG P7 cR HX HVb HOb HRb;go_wp2_with (refine XT rfl 63 _ rfl pV 0 rfl v _ HV1.out.range Zr rfl Ym ?_);refine HI.out.1.mono ?_;rintro e w2 ⟨rfl,L5,kQ⟩;have HZ:=Za (And.intro L5 (L4.out.trans kQ (fun _ _ h=>h)));clear L5 kQ;go_wp2;go_end0;exact ⟨rfl,HZ.out⟩
end
section
open Go Go.RowKit Go.Deep
theorem Sb {a:Act}{dst:Option Tmp}{yt ty:ZN}{x y:Yz}{pos:String}{after:Array Edge}{guard:Option (Nat × Bool)}{w:Zc}{p q:Yd}{r:Bool}(hx:a.eval x= .agg (Zd p))(hy:a.eval y= .agg (Zd q))(hr:decide (p=q)=r) :
  (Xn a.eval { dst,op:= .binOp .eql 63 x y yt,type:=ty,pos,after,guard}).run Zb w= .ok (.value (.bool r)) w:=by
 simp only [Xn,hx,hy,Yi,Kn w .eql _ x y _ _ Tryz.eqGuardType63,ZQ,run_eql_struct,oH p q w,YC,hr]
theorem oL {a:Act}{dst:Option Tmp}{yt ty:ZN}{x y:Yz}{pos:String}{after:Array Edge}{guard:Option (Nat × Bool)}{w:Zc}{p q:Yd}{r:Bool}(hx:a.eval x= .agg (Zd p))(hy:a.eval y= .agg (Zd q))(hr:(!decide (p=q))=r) :
  (Xn a.eval { dst,op:= .binOp .neq 63 x y yt,type:=ty,pos,after,guard}).run Zb w= .ok (.value (.bool r)) w:=by
 simp only [Xn,hx,hy,Yi,Kn w .neq _ x y _ _ Tryz.eqGuardType63,ZQ,run_neq_struct,oH p q w,YC,hr]
theorem fO (b n cp:Nat)(a:Option Addr)(i:Int)(v:Yd)(w:Zc)(h1:w.cell? ⟨b,1,none⟩=some (.slice a n cp))(ho:i < 0∨n≤i) :
  Zj Zb 187 #[.pointer (some ⟨b,0,none⟩),.int .i64 i,.agg (Zd v)] w fun e w'=>e= .returned (.int .i64 7)∧Zs w.heap.size w w':=by
 have HB:Hid (Zs w.heap.size w ((w.alloc (.cells #[.pointer (some ⟨b,0,none⟩)] 88)).alloc (.cells (Zd v) 63))):=Za (((Zp _ _).alloc (Zg _) _).alloc ZI _);have H:=Za (iv b n cp a i ((w.alloc (.cells #[.pointer (some ⟨b,0,none⟩)] 88)).alloc (.cells (Zd v) 63)) (ZF _ (ZF _ h1)) ho);clear h1 ho;go_enter_defers Tryz.func187,Tryz.ntmps187;go_wp2_with fail;refine H.out.mono ?_;rintro e w1 ⟨rfl,rfl⟩;go_wp2;exact ⟨_,results_tmp rfl _ _ _,rfl,HB.out⟩
theorem OB (b cap m n cp g i:Nat)(l:List Yd)(Qo v:Yd)(w:Zc)(h:J0 w b m (.slice (some ⟨g,0,none⟩) l.length cp) cap (Xj l) (Yy l) (Zz l))(ho:w.ownsRow 0 63 7 (.slice (some ⟨g,0,none⟩) l.length cp) l.length (XD l))(hi:l[i]?=some Qo) :i < l.length∧w.rangeAt g (i*7) Qo.row∧g≠b∧g≠m:=by
 refine ⟨(Zi.1 hi).1,?_,?_,?_⟩
 ·have:=Ms (w:=w) (b:=g) (off:=0) (l:=l) (fun j u hu=>by
   have:=ho.cells rfl j u hu;rwa [add_plain] at this) hi
  rwa [Nat.zero_add] at this
 ·rintro rfl
  rcases ho.2 with ⟨h1,_⟩ | ⟨g',BB,cur,h1,_,h3,_⟩
  ·cases h1
  ·injection h1 with h1 _ _; injection h1 with h1; injection h1 with h1; subst h1;exact Zgt
 ·rintro rfl
  rcases ho.2 with ⟨h1,_⟩ | ⟨g',BB,cur,h1,_,h3,_⟩
  ·cases h1
  ·injection h1 with h1 _ _; injection h1 with h1; injection h1 with h1; subst h1;obtain ⟨es,clock,h9,_⟩:=h.2; rw [h3] at h9; cases h9
theorem ma (b cap m cp g i:Nat)(l:List Yd)(v:Yd)(w:Zc)(h:J0 w b m (.slice (some ⟨g,0,none⟩) l.length cp) cap (Xj l) (Yy l) (Zz l))(ho:w.ownsRow 0 63 7 (.slice (some ⟨g,0,none⟩) l.length cp) l.length (XD l))(hi:l[i]?=some v) :
  Zj Zb 187 #[.pointer (some ⟨b,0,none⟩),.int .i64 i,.agg (Zd v)] w fun e w'=>e= .returned (.int .i64 0)∧Zs w.heap.size w w':=by
 obtain ⟨Fz,hr,-,-⟩:=OB b cap m l.length cp g i l v v w h ho hi;have HB:Hid (Zs w.heap.size w ((w.alloc (.cells #[.pointer (some ⟨b,0,none⟩)] 88)).alloc (.cells (Zd v) 63))):=Za (((Zp _ _).alloc (Zg _) _).alloc ZI _);have x1:=ZF (.cells (Zd v) 63) (ZF (.cells #[.pointer (some ⟨b,0,none⟩)] 88) h.cells.2.1);have HR:Hid (((w.alloc (.cells #[.pointer (some ⟨b,0,none⟩)] 88)).alloc (.cells (Zd v) 63)).rangeAt g (i*7) v.row):=Za (fun j u hu=>ZF _ (ZF _ (hr j u hu)));have H:=Za (Cs b l.length cp i _ ((w.alloc (.cells #[.pointer (some ⟨b,0,none⟩)] 88)).alloc (.cells (Zd v) 63)) x1 Fz);have HE:Hid (Blk ((w.alloc (.cells #[.pointer (some ⟨b,0,none⟩)] 88)).alloc (.cells (Zd v) 63)) (w.heap.size+1) 63 (Zd v)):=Za gl;have cR:((w.alloc (.cells #[.pointer (some ⟨b,0,none⟩)] 88)).alloc (.cells (Zd v) 63)).cell? ⟨w.heap.size,0,none⟩=some (.pointer (some ⟨b,0,none⟩)):=ZF _ ((Zv w _ _).cell 0);have hi1: ¬(i:Int)< 0:=by omega
 have UR: ¬(l.length:Int)≤(i:Int):=by omega
 have hi3:(i:Int)< (l.length:Int):=by omega
 clear h ho hi hr;go_enter_defers Tryz.func187,Tryz.ntmps187;go_wp2_with fail;generalize (w.alloc (.cells #[.pointer (some ⟨b,0,none⟩)] 88)).alloc (.cells (Zd v) 63)=W at*;refine H.out.mono ?_;rintro e w1 ⟨rfl,rfl⟩;have Hh:Hid (Blk (W.alloc (.cells (Zd v) 63)) (w.heap.size+1) 63 (Zd v)):=Za (HE.out.alloc _);have nm:Hid (Blk (W.alloc (.cells (Zd v) 63)) W.heap.size 63 (Zd v)):=Za (Zv _ _ _);go_wp2_with (first | (refine Eh (.bool true) rfl (Sb rfl rfl ZI) ?_) | (refine XT rfl 63 _ rfl g (i*7) rfl v _ HR.out Zr rfl Ym ?_) | (refine Zo rfl _ _ _ rfl W.heap.size (Zd v) rfl rfl 63 _ (ZG W _) Ym rfl (Yx v) ?_; rw [Zu]) | (refine XT rfl 63 _ rfl (w.heap.size+1) 0 rfl v _ Hh.out.range Zr rfl Ym ?_) | (refine XT rfl 63 _ rfl W.heap.size 0 rfl v _ nm.out.range Zr rfl Ym ?_));exact ⟨_,results_tmp rfl _ _ _,rfl,HB.out.alloc HB.out.size _⟩
end
section
open Go Go.RowKit Go.Deep
theorem j8 {l:List Yd}{i:Nat}{Qo:Yd}(h:l[i]?=some Qo)(v:Yd)(q:Int) :
  OF (OF (Xj l) Qo.st (Xj l Qo.st - 1)) v.st (OF (Xj l) Qo.st (Xj l Qo.st - 1) v.st+1) q=Xj (l.set i v) q:=by
 rw [WJ h];simp only [OF]
 by_cases e1:Qo.st=q
 ·subst e1
  by_cases e2:Qo.st=v.st
  ·rw [←e2]; simp
  ·have e3: ¬v.st=Qo.st:=fun e=>e2 e.symm
   simp [e2,e3]
 ·have e4: ¬q=Qo.st:=fun e=>e1 e.symm
  by_cases e2:v.st=q
  ·subst e2;simp [e1,e4]
  ·have e3: ¬q=v.st:=fun e=>e2 e.symm
   simp [e1,e2,e3,e4]
theorem l9 (b cap m cp g i:Nat)(l:List Yd)(Qo v:Yd)(w:Zc)(h:J0 w b m (.slice (some ⟨g,0,none⟩) l.length cp) cap (Xj l) (Yy l) (Zz l))(ho:w.ownsRow 0 63 7 (.slice (some ⟨g,0,none⟩) l.length cp) l.length (XD l))(hi:l[i]?=some Qo)
  (KF:v≠Qo) (hl:l.length≤4096) (hf: ∀x ∈ l,Yo x) (hv:Yo v) (yE:Zz l≤18446744073709551615) (hT:18446744073709551615 < Zz l - Qo.bal+v.bal) :
  Zj Zb 187 #[.pointer (some ⟨b,0,none⟩),.int .i64 i,.agg (Zd v)] w fun e w'=>e= .returned (.int .i64 10)∧Kept (fun i=>i=b∨i=m∨i=g) w w'∧J0 w' b m (.slice (some ⟨g,0,none⟩) l.length cp) cap (Xj l) (Yy l) (Zz l)∧w'.ownsRow 0 63 7 (.slice (some ⟨g,0,none⟩) l.length cp) l.length (XD l):=by
 obtain ⟨Fz,hr,hgb,hgm⟩:=OB b cap m l.length cp g i l Qo v w h ho hi;have ⟨v0,v1⟩:=hv.bal;have sU:=hf Qo (ZB hi);have ⟨o0,o1⟩:=sU.bal;have yF:Qo.bal≤Zz l∧XJ Qo≤Yy l∧1≤Xj l Qo.st∧Yy l - XJ Qo≤Zz l - Qo.bal:=by
  exact ZfL
 obtain ⟨PG,hA⟩:=Dh hf;have Om:=UN l Qo.st;have hc2:=UN l v.st;have x1:=ZF (.cells (Zd v) 63) (ZF (.cells #[.pointer (some ⟨b,0,none⟩)] 88) h.cells.2.1);have HR:Hid (((w.alloc (.cells #[.pointer (some ⟨b,0,none⟩)] 88)).alloc (.cells (Zd v) 63)).rangeAt g (i*7) Qo.row):=Za (fun j u hu=>ZF _ (ZF _ (hr j u hu)));have H:=Za (Cs b l.length cp i _ ((w.alloc (.cells #[.pointer (some ⟨b,0,none⟩)] 88)).alloc (.cells (Zd v) 63)) x1 Fz);have HE:Hid (Blk ((w.alloc (.cells #[.pointer (some ⟨b,0,none⟩)] 88)).alloc (.cells (Zd v) 63)) (w.heap.size+1) 63 (Zd v)):=Za gl;have HP:Hid (Blk ((w.alloc (.cells #[.pointer (some ⟨b,0,none⟩)] 88)).alloc (.cells (Zd v) 63)) w.heap.size 88 #[.pointer (some ⟨b,0,none⟩)]):=Za (YA (Zv w _ _) _);have cR:=HP.out.cell 0;have HG:=Za ((h.alloc (.cells #[.pointer (some ⟨b,0,none⟩)] 88)).alloc (.cells (Zd v) 63));have HO:=Za ((ho.alloc (.cells #[.pointer (some ⟨b,0,none⟩)] 88)).alloc (.cells (Zd v) 63));have HK:Hid (Kept (fun i=>i=b∨i=m∨i=g) w ((w.alloc (.cells #[.pointer (some ⟨b,0,none⟩)] 88)).alloc (.cells (Zd v) 63))):=Za (((ZH _ w).alloc _).alloc _);have yK:g < w.heap.size:=(ho.lt g rfl).2;have O0:=h.1.lt;have mU:=h.2.lt;have Er:((w.alloc (.cells #[.pointer (some ⟨b,0,none⟩)] 88)).alloc (.cells (Zd v) 63)).heap.size=w.heap.size+2:=by simp
 have hi1: ¬(i:Int)< 0:=by omega
 have UR: ¬(l.length:Int)≤(i:Int):=by omega
 have hi3:(i:Int)< (l.length:Int):=by omega
 have HI:=Za hi;have It:=Za KF;have HFO:=Za sU;have HV:=Za hv;obtain ⟨T,hTe⟩ : ∃T,Zz l=T:=⟨_,rfl⟩;obtain ⟨A,hAe⟩ : ∃A,Yy l=A:=⟨_,rfl⟩;rw [hTe,hAe] at yF;rw [hTe] at hT yE hA HG;rw [hAe] at PG hA HG;have Cr:0≤T:=by omega
 have HTE:=Za hTe;have HAE:=Za hAe;obtain ⟨n0,Mm⟩ : ∃n,w.heap.size=n:=⟨_,rfl⟩;have HN0:=Za Mm;rw [Mm] at HE HP cR yK O0 mU Er;have hob:=yF.1;have mK:=Za Er;clear Er;clear h ho hi hr hf KF sU hv hTe hAe;go_enter_defers Tryz.func187,Tryz.ntmps187;go_wp2_with fail;generalize ((w.alloc (.cells #[.pointer (some ⟨b,0,none⟩)] 88)).alloc (.cells (Zd v) 63))=W at*;refine H.out.mono ?_;rintro e w1 ⟨rfl,rfl⟩;have Hh:Hid (Blk (W.alloc (.cells (Zd Qo) 63)) (n0+1) 63 (Zd v)):=Za (HE.out.alloc _);have nm:Hid (Blk (W.alloc (.cells (Zd Qo) 63)) W.heap.size 63 (Zd Qo)):=Za (Zv _ _ _);go_wp2_with (first | (refine Eh (.bool false) rfl (Sb rfl rfl (by simp [It.out])) ?_) | (refine XT rfl 63 _ rfl g (i*7) rfl Qo _ HR.out Zr rfl Ym ?_) | (refine Zo rfl _ _ _ rfl W.heap.size (Zd Qo) rfl rfl 63 _ (ZG W _) Ym rfl (Yx Qo) ?_; rw [Zu]) | (refine XT rfl 63 _ rfl (n0+1) 0 rfl v _ Hh.out.range Zr rfl Ym ?_) | (refine XT rfl 63 _ rfl W.heap.size 0 rfl Qo _ nm.out.range Zr rfl Ym ?_));have yh:Hid (Blk (W.alloc (.cells (Zd Qo) 63)) n0 88 #[.pointer (some ⟨b,0,none⟩)]):=Za (HP.out.alloc _);have sJ:=Za (HG.out.alloc (.cells (Zd Qo) 63));have N4:=Za (HO.out.alloc (.cells (Zd Qo) 63));have M4:=Za (HK.out.alloc (.cells (Zd Qo) 63));have Zbk:(W.alloc (.cells (Zd Qo) 63)).heap.size=n0+3:=by have:=mK.out; simp; omega
 have S1:(W.alloc (.cells (Zd Qo) 63)).cell? ⟨n0,0,none⟩=some (.pointer (some ⟨b,0,none⟩))∧(W.alloc (.cells (Zd Qo) 63)).cell? ⟨b,4,none⟩=some (.int .u64 T)∧(W.alloc (.cells (Zd Qo) 63)).cell? ⟨n0+2,0,none⟩=some (.int .u64 Qo.bal)∧(W.alloc (.cells (Zd Qo) 63)).cell? ⟨n0+1,0,none⟩=some (.int .u64 v.bal):=
  ⟨yh.out.cell 0,sJ.out.cells.2.2.2.2,by rw [←mK.out]; exact nm.out.cell 0,Hh.out.cell 0⟩
 have Mu:=Za S1;rw [mK.out] at nm;simp only [mK.out];clear HE HP HG HO HK cR x1 H HR S1;generalize W.alloc (.cells (Zd Qo) 63)=W2 at*;refine M0 (fun _=>True) 15 15 [] trivial ?_;refine Qc ?_;refine Zfo ?_;refine Kg ?_;refine mD ?_;refine YJ 88 _ _ (.pointer (some ⟨b,0,none⟩)) rfl rfl rfl (fun w h=>by simp [go_sem,h]) (fun w h=>h.1) ?_;refine Qe ?_;refine BL ?_;refine YJ 22 _ _ (.int .u64 T) rfl rfl rfl (fun w h=>by simp [go_sem,h]) (fun w h=>h.2.1) ?_;refine Qe ?_;refine GN ?_;refine YJ 22 _ _ (.int .u64 Qo.bal) rfl rfl rfl (fun w h=>by simp [go_sem,h]) (fun w h=>h.2.2.1) ?_;refine Qe ?_;refine BL ?_;refine YJ 22 _ _ (.int .u64 v.bal) rfl rfl rfl (fun w h=>by simp [go_sem,h]) (fun w h=>h.2.2.2) ?_;refine Qe ?_;refine Qc ?_;refine hfO (i:=9) ?_;refine YD rfl rfl (QO 143 22 (.tmp 33) (.tmp 35) _ _ (.int .u64 (T - Qo.bal)) (.int .u64 v.bal) rfl rfl rfl J1 Ff rfl rfl rfl ⟨⟨ZF _ Mu.out.1,ZF _ Mu.out.2.1,ZF _ Mu.out.2.2.1,ZF _ Mu.out.2.2.2⟩,?_⟩);refine hfO (i:=10) ?_;refine Dg ?_;refine JZ #[.slice (some ⟨W2.drew.heap.size,0,none⟩) 2 2] Tryz.call23 ((RB W2.drew.heap.size (T - Qo.bal) v.bal _ (Zv W2.drew _ _) Zm Zm v0 v1 Zm).mono ?_);rintro e w3 ⟨rfl,hw3⟩;have S3:w3.cell? ⟨n0,0,none⟩=some (.pointer (some ⟨b,0,none⟩))∧w3.cell? ⟨b,4,none⟩=some (.int .u64 T)∧w3.cell? ⟨n0+2,0,none⟩=some (.int .u64 Qo.bal)∧w3.cell? ⟨n0+1,0,none⟩=some (.int .u64 v.bal):=by exact Zgh
 refine ⟨_,rfl,S3,?_⟩;have HZ:Hid (Kept (fun i=>i=b∨i=m∨i=g) w w3∧J0 w3 b m (.slice (some ⟨g,0,none⟩) l.length cp) cap (Xj l) A T∧w3.ownsRow 0 63 7 (.slice (some ⟨g,0,none⟩) l.length cp) l.length (XD l)):=Za (hw3▸⟨M4.out.drew.alloc _,(sJ.out.drewN 1).alloc _,QI (w:=W2.drew) N4.out _⟩);clear hw3;refine Dg ?_;refine Zfp ?_;refine Kg ?_;refine Ma ?_;refine BN ?_;refine Qc ?_;refine Bn ?_;refine ⟨by kernel_rfl,?_⟩;refine LY ?_;clear S3 Mu;go_wp2;refine GM ?_;go_wp2;refine ⟨_,results_tmp rfl _ _ _,rfl,?_⟩;rw [HTE.out,HAE.out];exact HZ.out
theorem wW (b cap m cp g i:Nat)(l:List Yd)(Qo v:Yd)(w:Zc)(h:J0 w b m (.slice (some ⟨g,0,none⟩) l.length cp) cap (Xj l) (Yy l) (Zz l))(ho:w.ownsRow 0 63 7 (.slice (some ⟨g,0,none⟩) l.length cp) l.length (XD l))(hi:l[i]?=some Qo)
  (KF:v≠Qo) (hl:l.length≤4096) (hf: ∀x ∈ l,Yo x) (hv:Yo v) (yE:Zz l≤18446744073709551615) (hT:Zz l - Qo.bal+v.bal≤18446744073709551615) :
  Zj Zb 187 #[.pointer (some ⟨b,0,none⟩),.int .i64 i,.agg (Zd v)] w fun e w'=>e= .returned (.int .i64 0)∧Kept (fun i=>i=b∨i=m∨i=g) w w'∧J0 w' b m (.slice (some ⟨g,0,none⟩) l.length cp) cap (Xj (l.set i v)) (Yy (l.set i v)) (Zz (l.set i v))∧w'.ownsRow 0 63 7 (.slice (some ⟨g,0,none⟩) l.length cp) l.length (XD (l.set i v)):=by
 obtain ⟨Fz,hr,hgb,hgm⟩:=OB b cap m l.length cp g i l Qo v w h ho hi;have ⟨v0,v1⟩:=hv.bal;have sU:=hf Qo (ZB hi);have ⟨o0,o1⟩:=sU.bal;have yF:Qo.bal≤Zz l∧XJ Qo≤Yy l∧1≤Xj l Qo.st∧Yy l - XJ Qo≤Zz l - Qo.bal:=by
  exact ZfL
 obtain ⟨PG,hA⟩:=Dh hf;have Om:=UN l Qo.st;have hc2:=UN l v.st;have x1:=ZF (.cells (Zd v) 63) (ZF (.cells #[.pointer (some ⟨b,0,none⟩)] 88) h.cells.2.1);have HR:Hid (((w.alloc (.cells #[.pointer (some ⟨b,0,none⟩)] 88)).alloc (.cells (Zd v) 63)).rangeAt g (i*7) Qo.row):=Za (fun j u hu=>ZF _ (ZF _ (hr j u hu)));have H:=Za (Cs b l.length cp i _ ((w.alloc (.cells #[.pointer (some ⟨b,0,none⟩)] 88)).alloc (.cells (Zd v) 63)) x1 Fz);have HE:Hid (Blk ((w.alloc (.cells #[.pointer (some ⟨b,0,none⟩)] 88)).alloc (.cells (Zd v) 63)) (w.heap.size+1) 63 (Zd v)):=Za gl;have HP:Hid (Blk ((w.alloc (.cells #[.pointer (some ⟨b,0,none⟩)] 88)).alloc (.cells (Zd v) 63)) w.heap.size 88 #[.pointer (some ⟨b,0,none⟩)]):=Za (YA (Zv w _ _) _);have cR:=HP.out.cell 0;have HG:=Za ((h.alloc (.cells #[.pointer (some ⟨b,0,none⟩)] 88)).alloc (.cells (Zd v) 63));have HO:=Za ((ho.alloc (.cells #[.pointer (some ⟨b,0,none⟩)] 88)).alloc (.cells (Zd v) 63));have HK:Hid (Kept (fun i=>i=b∨i=m∨i=g) w ((w.alloc (.cells #[.pointer (some ⟨b,0,none⟩)] 88)).alloc (.cells (Zd v) 63))):=Za (((ZH _ w).alloc _).alloc _);have yK:g < w.heap.size:=(ho.lt g rfl).2;have O0:=h.1.lt;have mU:=h.2.lt;have Er:((w.alloc (.cells #[.pointer (some ⟨b,0,none⟩)] 88)).alloc (.cells (Zd v) 63)).heap.size=w.heap.size+2:=by simp
 have hi1: ¬(i:Int)< 0:=by omega
 have UR: ¬(l.length:Int)≤(i:Int):=by omega
 have hi3:(i:Int)< (l.length:Int):=by omega
 have HI:=Za hi;have It:=Za KF;have HFO:=Za sU;have HV:=Za hv;obtain ⟨T,hTe⟩ : ∃T,Zz l=T:=⟨_,rfl⟩;obtain ⟨A,hAe⟩ : ∃A,Yy l=A:=⟨_,rfl⟩;rw [hTe,hAe] at yF;rw [hTe] at hT yE hA HG;rw [hAe] at PG hA HG;have Cr:0≤T:=by omega
 have HTE:=Za hTe;have HAE:=Za hAe;obtain ⟨n0,Mm⟩ : ∃n,w.heap.size=n:=⟨_,rfl⟩;have HN0:=Za Mm;rw [Mm] at HE HP cR yK O0 mU Er;have hob:=yF.1;have mK:=Za Er;clear Er;clear h ho hi hr hf KF sU hv hTe hAe;go_enter_defers Tryz.func187,Tryz.ntmps187;go_wp2_with fail;generalize ((w.alloc (.cells #[.pointer (some ⟨b,0,none⟩)] 88)).alloc (.cells (Zd v) 63))=W at*;refine H.out.mono ?_;rintro e w1 ⟨rfl,rfl⟩;have Hh:Hid (Blk (W.alloc (.cells (Zd Qo) 63)) (n0+1) 63 (Zd v)):=Za (HE.out.alloc _);have nm:Hid (Blk (W.alloc (.cells (Zd Qo) 63)) W.heap.size 63 (Zd Qo)):=Za (Zv _ _ _);go_wp2_with (first | (refine Eh (.bool false) rfl (Sb rfl rfl (by simp [It.out])) ?_) | (refine XT rfl 63 _ rfl g (i*7) rfl Qo _ HR.out Zr rfl Ym ?_) | (refine Zo rfl _ _ _ rfl W.heap.size (Zd Qo) rfl rfl 63 _ (ZG W _) Ym rfl (Yx Qo) ?_; rw [Zu]) | (refine XT rfl 63 _ rfl (n0+1) 0 rfl v _ Hh.out.range Zr rfl Ym ?_) | (refine XT rfl 63 _ rfl W.heap.size 0 rfl Qo _ nm.out.range Zr rfl Ym ?_));have yh:Hid (Blk (W.alloc (.cells (Zd Qo) 63)) n0 88 #[.pointer (some ⟨b,0,none⟩)]):=Za (HP.out.alloc _);have sJ:=Za (HG.out.alloc (.cells (Zd Qo) 63));have N4:=Za (HO.out.alloc (.cells (Zd Qo) 63));have M4:=Za (HK.out.alloc (.cells (Zd Qo) 63));have Zbk:(W.alloc (.cells (Zd Qo) 63)).heap.size=n0+3:=by have:=mK.out; simp; omega
 have S1:(W.alloc (.cells (Zd Qo) 63)).cell? ⟨n0,0,none⟩=some (.pointer (some ⟨b,0,none⟩))∧(W.alloc (.cells (Zd Qo) 63)).cell? ⟨b,4,none⟩=some (.int .u64 T)∧(W.alloc (.cells (Zd Qo) 63)).cell? ⟨n0+2,0,none⟩=some (.int .u64 Qo.bal)∧(W.alloc (.cells (Zd Qo) 63)).cell? ⟨n0+1,0,none⟩=some (.int .u64 v.bal):=
  ⟨yh.out.cell 0,sJ.out.cells.2.2.2.2,by rw [←mK.out]; exact nm.out.cell 0,Hh.out.cell 0⟩
 have Mu:=Za S1;rw [mK.out] at nm;simp only [mK.out];clear HE HP HG HO HK cR x1 H HR S1;generalize W.alloc (.cells (Zd Qo) 63)=W2 at*;refine M0 (fun _=>True) 15 15 [] trivial ?_;refine Qc ?_;refine Zfo ?_;refine Kg ?_;refine mD ?_;refine YJ 88 _ _ (.pointer (some ⟨b,0,none⟩)) rfl rfl rfl (fun w h=>by simp [go_sem,h]) (fun w h=>h.1) ?_;refine Qe ?_;refine BL ?_;refine YJ 22 _ _ (.int .u64 T) rfl rfl rfl (fun w h=>by simp [go_sem,h]) (fun w h=>h.2.1) ?_;refine Qe ?_;refine GN ?_;refine YJ 22 _ _ (.int .u64 Qo.bal) rfl rfl rfl (fun w h=>by simp [go_sem,h]) (fun w h=>h.2.2.1) ?_;refine Qe ?_;refine BL ?_;refine YJ 22 _ _ (.int .u64 v.bal) rfl rfl rfl (fun w h=>by simp [go_sem,h]) (fun w h=>h.2.2.2) ?_;refine Qe ?_;refine Qc ?_;refine hfO (i:=9) ?_;refine YD rfl rfl (QO 143 22 (.tmp 33) (.tmp 35) _ _ (.int .u64 (T - Qo.bal)) (.int .u64 v.bal) rfl rfl rfl J1 Ff rfl rfl rfl ⟨⟨ZF _ Mu.out.1,ZF _ Mu.out.2.1,ZF _ Mu.out.2.2.1,ZF _ Mu.out.2.2.2⟩,?_⟩);refine hfO (i:=10) ?_;refine Dg ?_;refine JZ #[.slice (some ⟨W2.drew.heap.size,0,none⟩) 2 2] Tryz.call23 ((RD W2.drew.heap.size (T - Qo.bal) v.bal _ (Zv W2.drew _ _) Zm v0 hT).mono ?_);rintro e w3 ⟨rfl,hw3⟩;have S3:w3.cell? ⟨n0,0,none⟩=some (.pointer (some ⟨b,0,none⟩))∧w3.cell? ⟨b,4,none⟩=some (.int .u64 T)∧w3.cell? ⟨n0+2,0,none⟩=some (.int .u64 Qo.bal)∧w3.cell? ⟨n0+1,0,none⟩=some (.int .u64 v.bal):=by exact Zgh
 refine ⟨_,rfl,S3,?_⟩;have HZ:Hid (Kept (fun i=>i=b∨i=m∨i=g) w w3∧J0 w3 b m (.slice (some ⟨g,0,none⟩) l.length cp) cap (Xj l) A T∧w3.ownsRow 0 63 7 (.slice (some ⟨g,0,none⟩) l.length cp) l.length (XD l)∧Blk w3 n0 88 #[.pointer (some ⟨b,0,none⟩)]∧Blk w3 (n0+1) 63 (Zd v)∧Blk w3 (n0+2) 63 (Zd Qo)):=
  Za (hw3▸⟨M4.out.drew.alloc _,(sJ.out.drewN 1).alloc _,QI (w:=W2.drew) N4.out _,YA (Ko yh.out) _,YA (Ko Hh.out) _,YA (Ko nm.out) _⟩)
 clear M4 sJ N4 yh Hh nm;clear hw3;refine Dg ?_;refine Zfp ?_;refine Kg ?_;refine Ma ?_;refine BN ?_;refine Qc ?_;refine Bn ?_;refine ⟨by kernel_rfl,?_⟩;refine LY ?_;clear S3 Mu;have Ix: ∀(fn:Fn) (first cap:Array Zl) (w:Zc),(Instr.makeFunc fn first cap).run Zb w= .ok (.func fn first cap) w:=fun _ _ _ _=>rfl
 go_wp2;refine GM ?_;go_wp2;clear Ix;have d0:=HZ.out.2.2.2.1.cell 0;have d1:=HZ.out.2.1.cells.2.1;refine wqT 7 ?_;refine BA ?_;iterate 5 (go_big_quiet_step (fail))
 refine JQ 63 (.tmp 5) (n0+1) 0 v _ rfl rfl rfl (fun w h=>by obtain ⟨n,rfl⟩:=h; exact (Xy HZ.out.2.2.2.2.1 n).range) Zr rfl Ym ?_;refine Qe ?_
 repeat (go_big_quiet_step (fail))
 refine Qc ?_;intro _ JB;obtain ⟨n1,Xh⟩:=JB;subst Xh;obtain ⟨hos,hth⟩:=Nz (w:=w3.drewN n1) HZ.out.2.2.1 HI.out v;have hos:=Za hos;refine wpList_store_mid rfl 63 _ _ rfl g (i*7) (Zd v) rfl rfl hth Ym (Yx v) ?_;have vh:Kept (fun i=>i=g) (w3.drewN n1) ((w3.drewN n1).setCells g (i*7) (Zd v).toList):=Kept.setCells _ _ _ (ZH _ _) (.inl rfl);have H5:Hid (J0 ((w3.drewN n1).setCells g (i*7) (Zd v).toList) b m (.slice (some ⟨g,0,none⟩) l.length cp) cap (Xj l) A T∧((w3.drewN n1).setCells g (i*7) (Zd v).toList).ownsRow 0 63 7 (.slice (some ⟨g,0,none⟩) l.length cp) l.length (XD (l.set i v))∧Kept (fun i=>i=b∨i=m∨i=g) w ((w3.drewN n1).setCells g (i*7) (Zd v).toList)∧
   Blk ((w3.drewN n1).setCells g (i*7) (Zd v).toList) n0 88 #[.pointer (some ⟨b,0,none⟩)]∧Blk ((w3.drewN n1).setCells g (i*7) (Zd v).toList) (n0+1) 63 (Zd v)∧Blk ((w3.drewN n1).setCells g (i*7) (Zd v).toList) (n0+2) 63 (Zd Qo)):=
  Za ⟨(HZ.out.2.1.drewN n1).same (vh.block b (HZ.out.2.1.1.lt) (fun e=>hgb e.symm)) (vh.block m (HZ.out.2.1.2.lt) (fun e=>hgm e.symm)),hos.out,(HZ.out.1.drewN n1).trans vh (fun _ _ e=> .inr (.inr e)),
   (Xy HZ.out.2.2.2.1 n1).kept vh Zm,(Xy HZ.out.2.2.2.2.1 n1).kept vh Zm,(Xy HZ.out.2.2.2.2.2 n1).kept vh Zm⟩
 clear vh hth d0 d1;generalize (w3.drewN n1).setCells g (i*7) (Zd v).toList=W5 at*;have HC:=Za (I2 b m cap n0 (n0+2) (n0+1) _ (Xj l) A T Qo v W5 H5.out.1 H5.out.2.2.2.1 H5.out.2.2.2.2.2 H5.out.2.2.2.2.1 HFO.out HV.out yF.2.1 hA yF.2.2.2 hob yE hT yF.2.2.1 Zm hc2.1 Zm);have HOS:=Za H5.out.2.1;go_wp2;refine leaves_cons (f:=241) (args:= #[.pointer (some ⟨n0,0,none⟩),.pointer (some ⟨n0+2,0,none⟩),.pointer (some ⟨n0+1,0,none⟩)]) ZI (by simp [go_sem]) ?_;refine (HC.out.2 _).mono ?_;rintro e u' w6 ⟨rfl,rfl,hr6,hk6⟩;refine ⟨_,results_tmp rfl _ _ _,rfl,H5.out.2.2.1.trans hk6 (fun _ _ h=>h.elim .inl (fun h=> .inr (.inl h))),?_,?_⟩
 ·have e1:Yy (l.set i v)=A - XJ Qo+XJ v:=by rw [Fp HI.out,HAE.out]
  have e2:Zz (l.set i v)=T - Qo.bal+v.bal:=by rw [J3 HI.out,HTE.out]
  rw [e1,e2];exact ⟨hr6.1,hr6.2.congr (fun q=>j8 HI.out v q)⟩
 ·exact K9 H5.out.2.1 (fun j hj=>by
   injection hj with hj;subst hj;exact hk6.block _ ((H5.out.2.1.lt _ rfl).2) (by rintro (h | h); exact hgb h; exact hgm h))
theorem q6 (b cap:Nat)(S:Nat→Prop)(i:Int)(l:List Yd)(v:Yd)(w:Zc)(h:Fh w b S cap l)(hv:Yo v) :
  Zj Zb 187 #[.pointer (some ⟨b,0,none⟩),.int .i64 i,.agg (Zd v)] w fun e w'=>
   ((i < 0∨l.length≤i)∧e= .returned (.int .i64 7)∧Fh w' b S cap l∧Kept S w w')∨
   ∃(k:Nat) (Qo:Yd),i=k∧l[k]?=some Qo∧((Zz l - Qo.bal+v.bal≤18446744073709551615∧e= .returned (.int .i64 0)∧Fh w' b S cap (l.set k v)∧Kept S w w')∨(18446744073709551615 < Zz l - Qo.bal+v.bal∧e= .returned (.int .i64 10)∧Fh w' b S cap l∧Kept S w w')):=by
 have ZeT:=h;obtain ⟨m,s,h1,h2,h3,h4,h5,h6,h7,hS⟩:=h;obtain ⟨a,cp,rfl,_,_⟩:=UB h2
 by_cases ho:i < 0∨(l.length:Int)≤i
 ·exact (fO b l.length cp a i v w h1.cells.2.1 ho).mono fun e w' ⟨he,hb⟩=> .inl ⟨ho,he,ZeT.below hb,YP hb⟩
 ·obtain ⟨k,rfl⟩ : ∃k:Nat,i=k:=⟨i.toNat,by omega⟩;have hk:k < l.length:=by omega
  obtain ⟨Qo,hold⟩ : ∃Qo,l[k]?=some Qo:=⟨_,Zf hk⟩;obtain ⟨g,rfl⟩ : ∃g,a=some ⟨g,0,none⟩:=by
   rcases h2.2 with ⟨_,h9⟩ | ⟨g,_,_,h9,_⟩
   ·omega
   ·injection h9 with h9; exact ⟨g,h9⟩
  have Hz: ∀i,(Yj (some ⟨g,0,none⟩) l.length cp).ownBlock=some i ↔ i=g:=fun i=>by simp [Y4,eq_comm]
  have yS: ∀w',Kept (fun i=>i=b∨i=m∨i=g) w w'→Kept S w w':=fun w' hk=>hk.more (fun i _ hi=>(hS i).2 (hi.imp id (Or.imp id (fun e=>(Hz i).2 e))))
  by_cases he:v=Qo
  ·subst he;have vx:l.set k v=l:=by
    refine List.ext_getElem? fun j=>?_
    rw [List.getElem?_set]
    split
    ·rename_i hj; subst hj; rw [hold]; try simp [hk]
    ·rfl
   exact (ma b cap m cp g k l v w h1 h2 hold).mono fun e w' ⟨he,hb⟩=> .inr ⟨k,v,rfl,hold,.inl ⟨by omega,he,by rw [vx]; exact ZeT.below hb,YP hb⟩⟩
  ·by_cases ht:Zz l - Qo.bal+v.bal≤18446744073709551615
   ·refine (wW b cap m cp g k l Qo v w h1 h2 hold he Zm h7 hv h6 ht).mono fun e w' ⟨he,aK,r1,r2⟩=> .inr ⟨k,Qo,rfl,hold,.inl ⟨ht,he,⟨m,_,r1,by simpa using r2,h3,h4,by simpa using h5,?_,?_,hS⟩,yS w' aK⟩⟩
    ·rw [J3 hold]; exact ht
    ·intro x hx
     rcases List.mem_or_eq_of_mem_set hx with hx | rfl
     ·exact h7 x hx
     ·exact hv
   ·exact (l9 b cap m cp g k l Qo v w h1 h2 hold he Zm h7 hv h6 Zm).mono fun e w' ⟨he,aK,r1,r2⟩=> .inr ⟨k,Qo,rfl,hold,.inr ⟨by omega,he,⟨m,_,r1,r2,h3,h4,h5,h6,h7,hS⟩,yS w' aK⟩⟩
end
section
open Go Go.RowKit Go.Deep
theorem GV {w:Zc}{base:Nat}{e:ZN}{k:Nat}{v:Zl}{n:Nat}{xs:List Zl}(h:w.ownsRow base e k v n xs){B:Nat}(hB:B≤base) :w.ownsRow B e k v n xs:=by
 exact rM
theorem vH {w w':Zc}{S:Nat→Prop}{a:Option Addr}{l:List Yd}(h:Fm w S a l)(hb:Zs w.heap.size w w') :0 < l.length→ ∃ad,a=some ad∧ ∀j u,(XD l)[j]?=some u→w'.cell? (ad.add j)=some u:=fun h0=>(h.below hb).flat h0
theorem Od (S:Nat→Prop)(a:Option Addr)(cp:Nat)(l:List Yd)(w:Zc)(h:Fm w S a l)(hl:l.length≤4096) :
  Zj Zb 109 #[.slice a l.length cp] w fun e w'=> ∃v,e= .returned v∧w'.ownsRow w.heap.size 63 7 v l.length (XD l)∧Zs w.heap.size w w':=by
 have HL:=Za h
 by_cases hn:a=none
 ·subst hn;have h0:l.length=0:=by
   rcases Nat.eq_zero_or_pos l.length with h0 | h0
   ·exact h0
   ·obtain ⟨b,off,h1,_⟩:=h h0
    cases h1
  obtain rfl:=ZU h0;clear h HL;have heq:=fun (w:Zc) (a:Option Addr) (n c:Nat)=>Lib.run_eql_slice_nil (P:=Zb) w 46 63 a n c 0 0 Uk
  go_enter Tryz.func109,Tryz.ntmps109;go_wp2;go_ret;exact ⟨_,rfl,World.ownsRow_nil _ _ _ _,Zp _ _⟩
 ·obtain ⟨ad,rfl⟩:=Option.ne_none_iff_exists'.1 hn;obtain ⟨i,hi,hz,vw,LJ⟩:=Ie;have hlen:=Hv l;have HLEN:=Za hlen;clear h hn hlen;have heq:=fun (w:Zc) (a:Option Addr) (n c:Nat)=>Lib.run_eql_slice_nil (P:=Zb) w 46 63 a n c 0 0 Uk
  go_enter Tryz.func109,Tryz.ntmps109;go_wp2_with (at_builtin; refine X7 _ rfl (.tmp 5) (.tmp 6) 46 rfl w.heap.size 63 i _ 7 56 Uk hi hz vw LJ (OV _) Zm (.slice (some ⟨w.heap.size,0,none⟩) 0 0) 0 [] rfl (SG (Zv w _ _) (Zg _)) (some ad) l.length cp (XD l) rfl (by rw [HLEN.out]) (fun h0=>vH HL.out ((Zp _ _).alloc (Zg _) _) h0) oP UH Zm ZI ?_; intro v w1 ho hg hv);have hZ:w1.ownsRow w.heap.size 63 7 v l.length (XD l)∧Zs w.heap.size w w1:=by
   refine ⟨by simpa using ho,?_⟩;exact Bp ((Zp _ _).alloc (Zg _) _) (g:=w.heap.size) hg ZI (Zg _)
  have HZ:=Za hZ;clear ho hg hv hZ hi hz vw LJ;go_wp2;go_ret;exact ⟨_,rfl,HZ.out⟩
theorem ud (b cap:Nat)(S:Nat→Prop)(l:List Yd)(w:Zc)(h:Fh w b S cap l) :
  Zj Zb 55 #[.pointer (some ⟨b,0,none⟩)] w fun e w'=> ∃v,e= .returned v∧w'.ownsRow w.heap.size 63 7 v l.length (XD l)∧Zs w.heap.size w w':=by
 obtain ⟨m,a,cp,x0,x1,x2,x3,x4,q1,q2,_,hL⟩:=h.cells;have hl:=h.fits;have H:=Za (Od _ a cp l w hL Zm);clear h hL hl x0 x2 x3 x4;go_enter Tryz.func55,Tryz.ntmps55;go_wp2_with fail;refine H.out.mono ?_;rintro e w1 ⟨v,rfl,ho,hb⟩;have HZ:=Za (And.intro ho hb);clear ho hb H;go_wp2_with fail;go_ret;exact ⟨_,rfl,HZ.out⟩
theorem im (b cap:Nat)(S:Nat→Prop)(i:Int)(l:List Yd)(w:Zc)(h:Fh w b S cap l) :
  Zj Zb 70 #[.pointer (some ⟨b,0,none⟩),.int .i64 i] w fun e w'=>Zs w.heap.size w w'∧(((i < 0∨l.length≤i)∧e= .returned (.tuple #[.agg (Zd ZZ),.bool false]))∨ ∃(k:Nat) (v:Yd),i=k∧l[k]?=some v∧e= .returned (.tuple #[.agg (Zd v),.bool true])):=by
 obtain ⟨m,a,cp,x0,x1,x2,x3,x4,q1,q2,_,hL⟩:=h.cells
 by_cases ho:i < 0∨(l.length:Int)≤i
 ·refine (ZaH (some ⟨b,0,none⟩) i w (fun w' hb=>?_)).mono fun e w' ⟨he,hb⟩=>⟨hb,.inl ⟨ho,he⟩⟩
  exact iv b l.length cp a i w' ((hb.cell (p:=⟨b,1,none⟩) (cell_lt x1)).trans x1) ho
 ·obtain ⟨k,rfl⟩ : ∃k:Nat,i=k:=⟨i.toNat,by omega⟩;have hk:k < l.length:=by omega
  obtain ⟨v,hv⟩ : ∃v,l[k]?=some v:=⟨_,Zf hk⟩;obtain ⟨g,off,rfl,hr⟩:=hL.at hv;exact (ZaG b l.length cp k g off v w x1 hk hr).mono fun e w' ⟨he,hb⟩=>⟨hb,.inr ⟨k,v,rfl,hv,he⟩⟩
end
section
open Go Go.ChangeShapes Go.WideShapes Go.RowKit Go.Deep
def JE (p:Int × Int) :List Zl:= [.int .i64 p.1,.int .i64 p.2]
def cellsP (p:Int × Int) :Array Zl:=(JE p).toArray
theorem Uv (p:Int × Int) :(cellsP p).all (·.oneCell')=true:=by
 refine ZT.2 (fun u hu=>?_);simp only [cellsP,JE,List.mem_toArray,ZY,Yf,or_false] at hu
 rcases hu with rfl | rfl <;> rfl
theorem Bf:(Tryz.prog.info? 73).map (·.size)=some 2:=by kernel_rfl
theorem Nr:(Tryz.prog.info? 281).map (·.size)=some 2:=by kernel_rfl
theorem zc: ∃i,Tryz.prog.info? 3=some i:=by
 have h:(Tryz.prog.info? 3).isSome=true:=by kernel_rfl
 exact Option.isSome_iff_exists.1 h
theorem uQ (x y:Int × Int)(w:Zc) :(Vo 10000 281 (.agg (cellsP x)) (.agg (cellsP y))).run Zb w= .ok (decide (x=y)) w:=by
 obtain ⟨i,hi⟩:=zc;rw [run_equalIn_array w 9999 (cellsP x) (cellsP y) Tryz.underlying281 hi,show Tryz.prog.cellsOf 3=1 by kernel_rfl];exact zT9
theorem av {a:Act}{dst:Option Tmp}{yt ty:ZN}{x y:Yz}{pos:String}{after:Array Edge}{guard:Option (Nat × Bool)}{w:Zc}{p q:Int × Int}{r:Bool}(hx:a.eval x= .agg (cellsP p))(hy:a.eval y= .agg (cellsP q))(hr:decide (p=q)=r) :
  (Xn a.eval { dst,op:= .binOp .eql 281 x y yt,type:=ty,pos,after,guard}).run Zb w= .ok (.value (.bool r)) w:=by
 simp only [Xn,hx,hy,Yi,Kn w .eql _ x y _ _ (show Tryz.prog.eqGuardType Tryz.prog.depth 281=false by kernel_rfl),ZQ,run_eql_struct,uQ p q w,YC,hr]
def dh (w:Zc)(S:Nat→Prop)(a:Option Addr)(q:List (Int × Int)) :Prop:=
 0 < q.length→ ∃b off,a=some ⟨b,off,none⟩∧ ¬S b∧b < w.heap.size∧ ∀i p,q[i]?=some p→w.rangeAt b (off+i*2) (JE p)
section
variable {w w':Zc} {S T:Nat→Prop} {a:Option Addr} {q:List (Int × Int)}
theorem dh.nil (w:Zc)(S:Nat→Prop)(a:Option Addr) :dh w S a []:=fun h=>by simp at h
theorem dh.same (h:dh w S a q)(hs:w.heap.size≤w'.heap.size)(hb: ∀b,b < w.heap.size→ ¬S b→w'.heap[b]?=w.heap[b]?) :dh w' S a q:=fun h0=>by
 obtain ⟨b,off,h1,h2,h3,h4⟩:=h h0;exact ⟨b,off,h1,h2,by omega,fun i v hi=>World.rangeAt.same (h4 i v hi) (hb b h3 h2)⟩
theorem dh.below (h:dh w S a q)(hb:Zs w.heap.size w w') :dh w' S a q:=h.same hb.size fun b XP _=>hb.block b XP
theorem dh.more (h:dh w S a q)(hT: ∀i,i < w.heap.size→T i→S i) :dh w T a q:=fun h0=>by
 obtain ⟨b,off,h1,h2,h3,h4⟩:=h h0;exact ⟨b,off,h1,fun ht=>h2 (hT b h3 ht),h3,h4⟩
theorem dh.at (h:dh w S a q){i:Nat}{p:Int × Int}(hi:q[i]?=some p) : ∃b off,a=some ⟨b,off,none⟩∧w.rangeAt b (off+i*2) (JE p):=by
 obtain ⟨b,off,h1,_,_,h4⟩:=h gn;exact ⟨b,off,h1,h4 i p hi⟩
end
section
variable {P:YO} {ops:Array Oper} {rest:List Oper} {op:Oper} {a:Act} {w:Zc} {Q:Exit→Act→Zc→Prop}
theorem BH {C:Zc→Prop}{Qa:Act→Prop}(ty:ZN)(x:Yz)(b o:Nat)(p:Int × Int)(d:TypeDesc)(hw:Region.wanted op (yielded ops a.tmps)=true)(ho:op.op= .load ty x)(hx:a.eval x= .pointer (some ⟨b,o,none⟩))
  (hC: ∀w,C w→w.rangeAt b o (JE p)) (hu:P.underlying ty=some d) (hd:d.isRow=true) (hi:(P.info? ty).map (·.size)=some 2)
  (h:ZW P ops C Qa rest (a.put op.dst (.agg (cellsP p)))) :ZW P ops C Qa (op::rest) a:=by
 unfold ZW;rw [if_pos hw];refine ⟨_,fun w hc=>?_,h⟩;unfold Oper.quietAt Xn;simp only [ho,hx,Instr.loadAt,Instr.sureAddr,Yi,YC,ZQ,run_loadVar_mid w b o ty (JE p) d (hC w hc) hu hd hi];exact Hd
end
end
section
def Mo (s d:Yd) :Bool:=decide (s.st≠2∨d.st≠2)
def Lo (s d:Yd) :Bool:=s.sl||d.sl
def Mp (s d:Yd)(mb:Int) :Bool:=decide (18446744073709551615 < s.bal+d.bal∨mb < s.bal+d.bal)
def EM (s d:Yd)(mb:Int) :Int:=if Mo s d=true then 8 else if Lo s d=true then 9 else if Mp s d mb=true then 3 else 0
def Fj (s:Yd) :Yd:= { s with bal:=0,st:=7}
def N2 (s d:Yd) :Yd:= { d with bal:=d.bal+s.bal}
def DO (l:List Yd)(p:Int × Int)(mb:Int) :Int:=
 if p.1 < 0∨p.2 < 0∨(l.length:Int)≤p.1∨(l.length:Int)≤p.2 then 7 else if p.1=p.2 then 12 else EM (l.getD p.1.toNat ZZ) (l.getD p.2.toNat ZZ) mb
def Sz (l:List Yd)(i j:Nat) :List Yd:=(l.set i (Fj (l.getD i ZZ))).set j (N2 (l.getD i ZZ) (l.getD j ZZ))
def UX (l:List Yd)(p:Int × Int)(mb:Int) :List Yd:=if DO l p mb=0 then Sz l p.1.toNat p.2.toNat else l
def Ki (mb:Int) :List Yd→List (Int × Int)→List Yd
 | l,[]=>l
 | l,p::q=>Ki mb (UX l p mb) q
def F7 (mb:Int) :List Yd→List (Int × Int)→List Bool
 | _,[]=> []
 | l,p::q=>decide (DO l p mb=0)::F7 mb (UX l p mb) q
theorem RV {s d:Yd}{mb:Int}(h:EM s d mb=0) :s.st=2∧d.st=2∧s.sl=false∧d.sl=false∧s.bal+d.bal≤18446744073709551615∧s.bal+d.bal≤mb:=by
 unfold EM at h
 split at h
 ·omega
 ·split at h
  ·omega
  ·split at h
   ·omega
   ·rename_i h1 h2 h3
    simp [Mo] at h1;simp [Lo] at h2;simp [Mp] at h3;exact ⟨h1.1,h1.2,h2.1,h2.2,by omega,by omega⟩
theorem fF {l:List Yd}{p:Int × Int}{mb:Int}(h:DO l p mb=0) : ∃(i j:Nat) (s d:Yd),p=((i:Int),(j:Int))∧i≠j∧l[i]?=some s∧l[j]?=some d∧EM s d mb=0:=by
 unfold DO at h
 split at h
 ·omega
 ·split at h
  ·omega
  ·rename_i h1 h2
   obtain ⟨p1,p2⟩:=p;simp only at h h1 h2;refine ⟨p1.toNat,p2.toNat,l.getD p1.toNat ZZ,l.getD p2.toNat ZZ,?_,by omega,?_,?_,h⟩
   ·simp only [Prod.mk.injEq];omega
   ·exact rZ
   ·exact rZ
theorem VT {l:List Yd}{i:Nat}{v:Yd}(h:l[i]?=some v) :l.getD i ZZ=v:=by rw [Zq,h]; rfl
theorem qR {l:List Yd}{i j:Nat}{s d:Yd}(mb:Int)(hi:l[i]?=some s)(hj:l[j]?=some d) :DO l ((i:Int),(j:Int)) mb=if i=j then 12 else EM s d mb:=by
 have h1:=(Zi.1 hi).1;have h2:=(Zi.1 hj).1;unfold DO;rw [if_neg LD];simp only [YX,VT hi,VT hj]
 by_cases h:i=j
 ·rw [if_pos Zm,if_pos h]
 ·rw [if_neg Zm,if_neg h]
theorem qh (l:List Yd)(i j:Nat) :(Sz l i j).length=l.length:=by simp [Sz]
theorem vT (l:List Yd)(p:Int × Int)(mb:Int) :(UX l p mb).length=l.length:=by unfold UX; split <;> simp [qh]
theorem OC (mb:Int)(q:List (Int × Int)) : ∀l,(Ki mb l q).length=l.length:=by
 induction q with
 | nil=>intro l; rfl
 | cons p q ih=>intro l; rw [Ki,ih,vT]
theorem Av (mb:Int)(q:List (Int × Int)) : ∀l,(F7 mb l q).length=q.length:=by
 induction q with
 | nil=>intro l; rfl
 | cons p q ih=>intro l; simp [F7,ih]
theorem fU (mb:Int)(p:Int × Int)(q:List (Int × Int)) : ∀l,Ki mb l (q++[p])=UX (Ki mb l q) p mb:=by
 induction q with
 | nil=>intro l; rfl
 | cons x q ih=>intro l; simp only [Yh,Ki,ih]
theorem fT (mb:Int)(p:Int × Int)(q:List (Int × Int)) : ∀l,F7 mb l (q++[p])=F7 mb l q++[decide (DO (Ki mb l q) p mb=0)]:=by
 induction q with
 | nil=>intro l; rfl
 | cons x q ih=>intro l; simp only [Yh,Ki,F7,ih]; rfl
theorem Tu {q:List (Int × Int)}{k:Nat}{p:Int × Int}(h:q[k]?=some p) :q.take (k+1)=q.take k++[p]:=by rw [YR,h]; rfl
theorem LW (mb:Int){I:List Yd→Prop}(hI: ∀l i j s d,I l→i≠j→l[i]?=some s→l[j]?=some d→EM s d mb=0→I ((l.set i (Fj s)).set j (N2 s d)))(q:List (Int × Int)) : ∀l,I l→I (Ki mb l q):=by
 induction q with
 | nil=>exact fun l h=>h
 | cons p q ih=>
  intro l h;rw [Ki];refine ih _ ?_;unfold UX
  split
  ·rename_i h0
   obtain ⟨i,j,s,d,rfl,KF,hi,hj,hc⟩:=fF h0;simp only [Sz,YX,VT hi,VT hj];exact hI l i j s d h KF hi hj hc
  ·exact h
theorem ZbN {l:List Yd}{i j:Nat}{s d:Yd}(KF:i≠j)(hi:l[i]?=some s)(hj:l[j]?=some d)(k:Nat) :
  ((l.set i (Fj s)).set j (N2 s d))[k]?=if k=j then some (N2 s d) else if k=i then some (Fj s) else l[k]?:=by
 have h1:=(Zi.1 hi).1;have h2:=(Zi.1 hj).1
 by_cases h:k=j
 ·subst h; simp [h2]
 ·by_cases h':k=i
  ·subst h'; rw [if_neg h,if_pos rfl,YB (QD h),List.getElem?_set_self h1]
  ·rw [if_neg h,if_neg h',YB (QD h),YB (QD h')]
theorem ik {s d:Yd}{mb:Int}(hs:Yo s)(hd:Yo d)(hc:EM s d mb=0) :Yo (Fj s)∧Yo (N2 s d):=by
 have h:=RV hc;have hs':=hs.bal;have hd':=hd.bal;refine ⟨⟨show (Lit.int .u64 0).wf=true by decide,show (Lit.int .i64 7).wf=true by decide⟩,?_,hd.2⟩;simp [N2,Lit.wf,IntKind.min,IntKind.max,IntKind.signed,IntKind.bits];omega
theorem Tp (mb:Int)(q:List (Int × Int))(l:List Yd)(h: ∀v ∈ l,Yo v) : ∀v ∈ Ki mb l q,Yo v:=by
 refine LW mb (I:=fun l=> ∀v ∈ l,Yo v) (fun l i j s d hI KF hi hj hc v hv=>?_) q l h;obtain ⟨k,hk⟩:=List.getElem?_of_mem hv;rw [ZbN KF hi hj] at hk;have hf:=ik (hI s (ZB hi)) (hI d (ZB hj)) hc
 split at hk
 ·injection hk with hk; subst hk; exact hf.2
 ·split at hk
  ·injection hk with hk; subst hk; exact hf.1
  ·exact hI v (ZB hk)
theorem Tq (mb:Int)(q:List (Int × Int))(l:List Yd) :Zz (Ki mb l q)=Zz l∧Yy (Ki mb l q)=Yy l:=by
 refine LW mb (I:=fun m=>Zz m=Zz l∧Yy m=Yy l) (fun m i j s d hI KF hi hj hc=>?_) q l ⟨rfl,rfl⟩;have h:=RV hc;have O3:(m.set i (Fj s))[j]?=some d:=by exact jC
 rw [J3 O3,J3 hi,Fp O3,Fp hi,hI.1,hI.2];have e1:XJ s=s.bal:=by simp [XJ,D6,h.1]
 have e2:XJ d=d.bal:=by simp [XJ,D6,h.2.1]
 have e3:XJ (Fj s)=0:=by simp [XJ,D6,Fj]
 have e4:XJ (N2 s d)=d.bal+s.bal:=by simp [XJ,D6,N2,h.2.1]
 rw [e1,e2,e3,e4];simp only [Fj,N2];omega
end
section
open Go Go.RowKit
section
variable {P:YO} {ops:Array Oper} {Q:Exit→Act→Zc→Prop} {md:Kd} {S:Zc→Prop}
theorem bR {Zt:Array Bool}{j:Nat}(h:j ∈ Yw md ops Zt) :j < ops.size:=by
 obtain ⟨_,o,ho,_⟩:=mem_ready.1 h;exact (Array.getElem?_eq_some_iff.1 ho).1
theorem TA {i:Nat}{oi:Oper}{v:Zl}{L:Array Bool→Act→Zc→Prop}(hi:ops[i]?=some oi)(Bv: ∀(j:Nat) (o:Oper) cs b,ops[j]?=some o→o.op≠ .select cs b)
  (hQ: ∀c a w,Q (.panic c) (a.put oi.dst v) w→Q (.panic c) a w)
  (ET: ∀Zt a w,L Zt a w→Yw md ops Zt=[]) :
  ∀(f:Nat) (Zt:Array Bool) (a:Act) (w:Zc),
   (∀j oj,ops[j]?=some oj→j≠i→Zt.getD j true=false→(∀e ∈ oj.after,Xp md e=true→e.on≠i)→oi.apart ops oj=true)→
   i ∈ Yw md ops Zt→YieldsIf P ops S oi v a→S w→
   XZ P md ops Q S ops.size L f (Zt.setIfInBounds i true) (a.put oi.dst v) w→XZ P md ops Q S ops.size L (f+1) Zt a w:=by
 intro f
 induction f with
 | zero=>
  intro Zt a w _ hr hy hS H;refine ⟨fun h=>OO,fun j hj=>⟨bR hj,?_⟩⟩
  by_cases Mj:j=i
  ·subst Mj; exact hy.wpOp hi hS ⟨hS,H⟩
  ·have:=ET _ _ _ H;have hm:=UD hj Mj;rw [this] at hm
   cases hm
 | succ f ih=>
  intro Zt a w Mg hr hy hS H;have P9:=(mem_ready.1 hr).1;refine ⟨fun h=>OO,fun j hj=>⟨bR hj,?_⟩⟩
  by_cases Mj:j=i
  ·subst Mj; exact hy.wpOp hi hS ⟨hS,H⟩
  ·have h1:=(H.2 j (UD hj Mj)).2;obtain ⟨aJ,oj,pA,Du⟩:=mem_ready.1 hj;have FA: ∀e ∈ oj.after,Xp md e=true→e.on≠i:=fun e he hb heq=>by
    have h1:=Du e he hb;rw [heq,getD_both P9] at h1
    cases h1
   have h2:=wpOp_putIf pA (Mg j oj pA Mj aJ FA) (fun cs b=>Bv i oi cs b hi) (fun cs b=>Bv j oj cs b pA) hQ hy h1;have Si: ∀k ok,ops[k]?=some ok→k≠i→(Zt.setIfInBounds j true).getD k true=false→
     (∀e ∈ ok.after,Xp md e=true→e.on≠i)→oi.apart ops ok=true:=fun k ok hk mR P9 pz=>by
    refine Mg k ok hk mR ?_ pz
    by_cases EU:j=k
    ·subst EU; exact aJ
    ·rw [getD_set_ne true EU] at P9; exact P9
   refine wpOp_mono (fun a' w' h3=>⟨h3.2.1,ih (Zt.setIfInBounds j true) a' w' Si (UD hr (QD Mj)) h3.1 h3.2.1 ?_⟩) h2;rw [Array.setIfInBounds_comm _ _ Mj];exact h3.2.2
theorem DJ {L:Array Bool→Act→Zc→Prop}{w:Zc}(Bv:Qh ops=true)(hQ: ∀c a w,Q (.panic c) a w→False)
  (ET: ∀Zt a w,L Zt a w→Yw md ops Zt=[]) (hS:S w) (f:Nat) :
  ∀(ks:List Nat) (Zt:Array Bool) (a:Act),Fe md ops ops.size ks Zt=true→
   ZW P ops S (fun a'=>XZ P md ops Q S ops.size L f (US ks Zt) a' w) (ks.filterMap fun k=>ops[k]?) a→XZ P md ops Q S ops.size L (f+ks.length) Zt a w
 | [],Zt,a,_,h=>h
 | k::ks,Zt,a,hB,h=>by
  simp only [Fe,YZ,decide_eq_true_eq] at hB;obtain ⟨⟨⟨⟨DX,hp⟩,hr⟩,hf⟩,hB'⟩:=hB
  cases ho:ops[k]? with
  | none=>rw [ho] at hp; cases hp
  | some o=>
   rw [ho] at hp;rw [List.filterMap_cons_some ho] at h;have pF:k ∈ Yw md ops Zt:=by simpa using hr
   have hq:qOp P ops S k (ZW P ops S (fun a'=>XZ P md ops Q S ops.size L f (US ks (Zt.setIfInBounds k true)) a' w) (ks.filterMap fun k=>ops[k]?)) a:=by unfold qOp; simp only [ho]; exact h
   obtain ⟨v,hy,hK⟩:=Ei ho hp hq;exact TA ho (Region.noSelect_spec Bv) (fun c a w h=>(hQ _ _ _ h).elim) ET (f+ks.length) Zt a w (Region.free_spec ho hf) pF hy hS
    (DJ Bv hQ ET hS f ks _ _ hB' hK)
theorem PU {id:Nat}{a:Act}{w:Zc}{l:List Oper}(S:Zc→Prop)(f:Nat)(ks:List Nat)(hm:P.follows .mixedOrders=true)
  (hB:(Qh l.toArray&&Fe .any l.toArray l.toArray.size ks (Qv l.toArray.size false)&&decide (f+ks.length=l.toArray.size))=true)
  (hS:S w.drew)
  (h:ZW P l.toArray S (fun a'=>XZ P .any l.toArray (QE Q) S l.toArray.size (fun Zt a' w'=>Yw .any l.toArray Zt=[]∧QE Q .normal a' w') f (US ks (Qv l.toArray.size false)) a' w.drew) (ks.filterMap fun k=>l.toArray[k]?) a) :
  (Code.region id l.toArray true).wp P Q a w:=by
 simp only [YZ,decide_eq_true_eq] at hB;obtain ⟨⟨Bv,ht⟩,hf⟩:=hB;refine wp_region_noPanic (wp_region_any hm ?_);have H:=DJ (Q:=QE Q) Bv (fun _ _ _ h=>h) (fun Zt a w hL=>hL.1) hS f ks _ a ht h;have:=DI (Q:=QE Q) (g:=0) (fun Zt a' w' hL=>⟨hL.1,hL.2⟩) _ _ _ _ H;rw [hf] at this;exact this
theorem Fy {f m:Nat}{l:List Oper}{a:Act}{w:Zc}{Zt:Array Bool}(S':Zc→Prop)(ks:List Nat)(sR: ∀w,S' w→S w)
  (hB:(Qh l.toArray&&Fe .any l.toArray l.toArray.size ks Zt&&decide (f+ks.length=m))=true) (hS:S' w)
  (h:ZW P l.toArray S' (fun a'=>XZ P .any l.toArray (QE Q) S' l.toArray.size (fun Zt a' w'=>Yw .any l.toArray Zt=[]∧QE Q .normal a' w') f (US ks Zt) a' w) (ks.filterMap fun k=>l.toArray[k]?) a) :
  XZ P .any l.toArray (QE Q) S l.toArray.size (fun Zt a' w'=>Yw .any l.toArray Zt=[]∧QE Q .normal a' w') m Zt a w:=by
 simp only [YZ,decide_eq_true_eq] at hB;obtain ⟨⟨Bv,ht⟩,hf⟩:=hB;refine FO sR m Zt a w ?_;rw [←hf];exact DJ (Q:=QE Q) Bv (fun _ _ _ h=>h) (fun Zt a w hL=>hL.1) hS f ks _ a ht h
theorem wp_load_mid {o:Oper}{a:Act}{w:Zc}{K:Act→Zc→Prop}(ty:ZN)(x:Yz)(ho:o.op= .load ty x)
  (b off:Nat) (hx:a.eval x= .pointer (some ⟨b,off,none⟩)) (cs:List Zl) (d:TypeDesc) (hc:w.rangeAt b off cs)
  (hu:P.underlying ty=some d) (hd:d.isRow=true) (hi:(P.info? ty).map (·.size)=some cs.length) (h:K (a.put o.dst (.agg cs.toArray)) w) :o.wp P a w K Q:=by
 unfold Jj Xn;simp only [ho,hx,Instr.loadAt,Instr.sureAddr,Yi,YC,ZQ,run_loadVar_mid w b off ty cs d hc hu hd hi];exact h
end
end
section
open Go Go.RowKit
section
variable {P:YO} {ops:Array Oper} {Q:Exit→Act→Zc→Prop} {md:Kd} {S:Zc→Prop}
theorem Pu {id:Nat}{a:Act}{w:Zc}{l:List Oper}(S:Zc→Prop)(f:Nat)(ks:List Nat)(hS:S w.drew)
  (h:ZW P l.toArray S (fun a'=>XZ P .any l.toArray (QE Q) S l.toArray.size (fun Zt a' w'=>Yw .any l.toArray Zt=[]∧QE Q .normal a' w') f (US ks (Qv l.toArray.size false)) a' w.drew) (ks.filterMap fun k=>l.toArray[k]?) a)
  (hm:P.follows .mixedOrders=true:=by kernel_rfl)
  (hB:(Qh l.toArray&&Fe .any l.toArray l.toArray.size ks (Qv l.toArray.size false)&&decide (f+ks.length=l.toArray.size))=true:=by kernel_rfl) :
  (Code.region id l.toArray true).wp P Q a w:=PU S f ks hm hB hS h
theorem FX {f m:Nat}{l:List Oper}{a:Act}{w:Zc}{Zt:Array Bool}(S':Zc→Prop)(ks:List Nat)(hS:S' w)
  (h:ZW P l.toArray S' (fun a'=>XZ P .any l.toArray (QE Q) S' l.toArray.size (fun Zt a' w'=>Yw .any l.toArray Zt=[]∧QE Q .normal a' w') f (US ks Zt) a' w) (ks.filterMap fun k=>l.toArray[k]?) a)
  (sR: ∀w,S' w→S w:=by exact fun _ h=>h)
  (hB:(Qh l.toArray&&Fe .any l.toArray l.toArray.size ks Zt&&decide (f+ks.length=m))=true:=by kernel_rfl) :
  XZ P .any l.toArray (QE Q) S l.toArray.size (fun Zt a' w'=>Yw .any l.toArray Zt=[]∧QE Q .normal a' w') m Zt a w:=Fy S' ks sR hB hS h
end
end
section
open Go Go.RowKit Go.Deep
def Jz (l:List Yd) :List Int:=l.map (·.bal)
theorem mu {l:List Yd}{k:Nat}{v:Yd}(h:l[k]?=some v) :l.take (k+1)=l.take k++[v]:=by
 have hk:=(Zi.1 h).1;rw [YR,h];rfl
theorem dw {l:List Yd}(h: ∀v ∈ l,Yo v)(i:Nat) :0≤(Jz l).getD i 0∧(Jz l).getD i 0≤18446744073709551615:=by
 rw [Zq,Jz,ZP]
 cases hi:l[i]? with
 | none=>simp
 | some v=>exact (h v (ZB hi)).bal
end
section
open Go Go.ChangeShapes Go.WideShapes Go.RowKit Go.Deep
theorem FJ {w w':Zc}{b o:Nat}{cs:List Zl}(h:w.rangeAt b o cs)(hb:w'.heap[b]?=w.heap[b]?) :w'.rangeAt b o cs:=fun j v hv=>(World.cell?_of_block (w:=w) (a:=⟨b,o+j,none⟩) hb).trans (h j v hv)
section
variable {α:Type} {row:α→List Zl} {k:Nat}
def Yl (row:α→List Zl)(l:List α) :List Zl:=l.flatMap row
theorem UO (hk: ∀v,(row v).length=k)(l:List α) :(Yl row l).length=l.length*k:=by
 induction l with
 | nil=>simp [Yl]
 | cons x l ih=>simp only [Yl,Jf,List.length_append,hk,List.length_cons] at ih ⊢; rw [ih,Nat.succ_mul]; omega
theorem JP (l m:List α) :Yl row (l++m)=Yl row l++Yl row m:=by simp [Yl]
theorem EO (v:α) :Yl row [v]=row v:=by simp [Yl]
theorem Oi (h1: ∀v,∀u ∈ row v,u.oneCell'=true){l:List α} : ∀u ∈ Yl row l,u.oneCell'=true:=by
 intro u hu;obtain ⟨v,_,hv⟩:=List.mem_flatMap.1 hu;exact h1 v u hv
theorem EN (hk: ∀v,(row v).length=k){l:List α}{i:Nat}{v:α}(h:l[i]?=some v){j:Nat}(hj:j < k) :(Yl row l)[i*k+j]?=(row v)[j]?:=by
 induction l generalizing i with
 | nil=>simp at h
 | cons x l ih=>
  cases i with
  | zero=>
   simp at h;subst h;simp only [Yl,Jf,Nat.zero_mul,Nat.zero_add];rw [List.getElem?_append_left (by rw [hk]; exact hj)]
  | succ i=>
   simp only [List.getElem?_cons_succ] at h;have:=ih h;simp only [Yl,Jf] at this ⊢;rw [List.getElem?_append_right (by rw [hk,Nat.succ_mul]; omega),hk,show (i+1)*k+j - k=i*k+j by rw [Nat.succ_mul]; omega];exact this
theorem SV (hk: ∀v,(row v).length=k){w:Zc}{b off:Nat}{l:List α}(h: ∀j u,(Yl row l)[j]?=some u→w.cell? ⟨b,off+j,none⟩=some u){i:Nat}{v:α}(hi:l[i]?=some v) :w.rangeAt b (off+i*k) (row v):=by
 intro j u hu;have hj:j < k:=by rw [←hk v]; exact sC
 rw [Nat.add_assoc];exact h _ _ ((EN hk hi hj).trans hu)
theorem Sc (hk: ∀v,(row v).length=k)(h0:0 < k){w:Zc}{b off:Nat}{l:List α}(h: ∀i v,l[i]?=some v→w.rangeAt b (off+i*k) (row v)) : ∀j u,(Yl row l)[j]?=some u→w.cell? ⟨b,off+j,none⟩=some u:=by
 intro j u hu;have hj:j < l.length*k:=by rw [←UO hk]; exact sC
 have hq:j/k < l.length:=Nat.div_lt_of_lt_mul (by rwa [Nat.mul_comm]);have hr:j%k < k:=Nat.mod_lt _ h0;have hd:j/k*k+j%k=j:=by rw [Nat.mul_comm]; exact Nat.div_add_mod j k
 have e:=EN hk (Zf hq) hr;rw [hd,hu] at e;have:=h _ _ (Zf hq) (j%k) u e.symm;rwa [show off+j/k*k+j%k=off+j by omega] at this
def Kc (row:α→List Zl)(k:Nat)(w:Zc)(S:Nat→Prop)(a:Option Addr)(l:List α) :Prop:=
 0 < l.length→ ∃b off,a=some ⟨b,off,none⟩∧ ¬S b∧b < w.heap.size∧ ∀i v,l[i]?=some v→w.rangeAt b (off+i*k) (row v)
variable {w w':Zc} {S T:Nat→Prop} {a:Option Addr} {l:List α} {B:Nat} {e:ZN}
theorem Kc.nil (w:Zc)(S:Nat→Prop)(a:Option Addr) :Kc row k w S a ([] :List α):=fun h=>by simp at h
theorem Kc.same (h:Kc row k w S a l)(hs:w.heap.size≤w'.heap.size)(hb: ∀b,b < w.heap.size→ ¬S b→w'.heap[b]?=w.heap[b]?) :Kc row k w' S a l:=fun h0=>by
 obtain ⟨b,off,h1,h2,h3,h4⟩:=h h0;exact ⟨b,off,h1,h2,by omega,fun i v hi=>FJ (h4 i v hi) (hb b h3 h2)⟩
theorem Kc.below (h:Kc row k w S a l)(hb:Zs w.heap.size w w') :Kc row k w' S a l:=h.same hb.size fun b XP _=>hb.block b XP
theorem Kc.kept (h:Kc row k w S a l)(hb:Kept S w w') :Kc row k w' S a l:=h.same hb.size fun b XP hn=>hb.block b XP hn
theorem Kc.alloc (h:Kc row k w S a l)(o:Obj) :Kc row k (w.alloc o) S a l:=h.same ZI fun b XP _=>Below.heap_alloc w o b XP
theorem Kc.more (h:Kc row k w S a l)(hT: ∀i,i < w.heap.size→T i→S i) :Kc row k w T a l:=fun h0=>by
 obtain ⟨b,off,h1,h2,h3,h4⟩:=h h0;exact ⟨b,off,h1,fun ht=>h2 (hT b h3 ht),h3,h4⟩
theorem Kc.at (h:Kc row k w S a l){i:Nat}{v:α}(hi:l[i]?=some v) : ∃b off,a=some ⟨b,off,none⟩∧ ¬S b∧b < w.heap.size∧w.rangeAt b (off+i*k) (row v):=by
 obtain ⟨b,off,h1,h2,h3,h4⟩:=h gn;exact ⟨b,off,h1,h2,h3,h4 i v hi⟩
theorem Kc.take (h:Kc row k w S a l)(n:Nat) :Kc row k w S a (l.take n):=fun h0=>by
 obtain ⟨b,off,h1,h2,h3,h4⟩:=h (by rw [Xl] at h0; omega);refine ⟨b,off,h1,h2,h3,fun i v hi=>h4 i v ?_⟩;rw [List.getElem?_take] at hi
 split at hi
 ·exact hi
 ·cases hi
theorem Kc.flat (hk: ∀v,(row v).length=k)(hp:0 < k)(h:Kc row k w S a l)(h0:0 < l.length) : ∃ad,a=some ad∧ ∀j u,(Yl row l)[j]?=some u→w.cell? (ad.add j)=some u:=by
 obtain ⟨b,off,h1,_,_,h4⟩:=h h0;refine ⟨⟨b,off,none⟩,h1,fun j u hu=>?_⟩;rw [add_plain];exact Sc hk hp h4 j u hu
variable {s:Zl} {n:Nat} {xs:List Zl}
theorem bI (h:w.ownsRow B e k s n xs) : ∃a cp,s= .slice a n cp∧n≤cp∧cp≤maxLen:=by
 exact Zcy
theorem FC (h:w.ownsRow B e k s n xs)(hb: ∀i,s.ownBlock=some i→w'.heap[i]?=w.heap[i]?) :w'.ownsRow B e k s n xs:=by
 exact ZcF
theorem SE (h:w.ownsRow B e k s n xs){C:Nat}(hB:C≤B) :w.ownsRow C e k s n xs:=by
 exact rM
theorem qu (h:w.ownsRow B e k s n xs){C:Nat}(hB: ∀i,s.ownBlock=some i→C≤i) :w.ownsRow C e k s n xs:=by
 exact zq
theorem D9 (h:w.ownsRow B e k s n xs)(hb:Zs w.heap.size w w') :w'.ownsRow B e k s n xs:=FC h fun i hi=>hb.block i (h.lt i hi).2
theorem SF (h:w.ownsRow B e k s n xs)(hb:Kept S w w')(hS: ∀i,s.ownBlock=some i→ ¬S i) :w'.ownsRow B e k s n xs:=FC h fun i hi=>hb.block i (h.lt i hi).2 (hS i hi)
theorem UT (h:w.ownsRow B e k s n xs){i:Nat}(hi:s.ownBlock=some i) : ∃cur,Blk w i e cur∧B≤i:=by
 rcases h.2 with ⟨rfl,_⟩ | ⟨g,cp,cur,rfl,h1,h2,_⟩
 ·cases hi
 ·simp only [Y4,Qk] at hi;subst hi;exact ⟨cur,h2,h1⟩
theorem eP (w:Zc)(t:ZN)(cs:List Zl) : ∀j u,cs[j]?=some u→(w.alloc (.cells cs.toArray t)).cell? ((⟨w.heap.size,0,none⟩ :Addr).add j)=some u:=fun j u hu=>by
 rw [add_plain,(Zv w t cs.toArray).cell];simpa using hu
end
section
variable {P:YO} (w:Zc)
def IA (P:YO)(xs ys:Array Zl)(f:Field) :Prop:=
 f.name≠ "_" ∧((∃k n m,P.underlying f.type=some (.int k)∧xs[f.offset]?=some (.int k n)∧ys[f.offset]?=some (.int k m))∨(∃n m,P.underlying f.type=some .bool∧xs[f.offset]?=some (.bool n)∧ys[f.offset]?=some (.bool m))∨
  ∃n m,P.underlying f.type=some .string∧xs[f.offset]?=some (.string n)∧ys[f.offset]?=some (.string m))
theorem WH {n m:ByteArray} :(n.toList==m.toList)=true ↔ n=m:=by
 rw [beq_iff_eq,ByteArray.toList_eq,ByteArray.toList_eq];constructor
 ·intro h;have:n.data=m.data:=Array.toList_inj.1 h
  cases n; cases m; simp_all
 ·rintro rfl; rfl
theorem Nk (d:Nat)(xs ys:Array Zl) :
  ∀(fs:List Field),(∀f ∈ fs,IA P xs ys f)→
   ∃r,(Vf (d+1) xs ys fs).run P w= .ok r w∧(r=true ↔ ∀f ∈ fs,xs[f.offset]?=ys[f.offset]?)
 | [],_=>⟨true,by simp [Vf],by simp⟩
 | f::fs,h=>by
  obtain ⟨Sm,h1⟩:=h f ZI;obtain ⟨r,hr,L5⟩:=Nk d xs ys fs (fun j hj=>h j LF);obtain ⟨x,y,b,hn,hm,hp,cY,hq,hb⟩ : ∃x y b,xs[f.offset]?=some x∧ys[f.offset]?=some y∧(part f.type xs f.offset).run P w= .ok x w∧(part f.type ys f.offset).run P w= .ok y w∧(Vo (d+1) f.type x y).run P w= .ok b w∧(b=true ↔ x=y):=by
   rcases h1 with ⟨k,n,m,hk,hn,hm⟩ | ⟨n,m,hk,hn,hm⟩ | ⟨n,m,hk,hn,hm⟩
   ·exact ⟨_,_,_,hn,hm,Qj w LC hn,Qj w LC hm,run_equalIn_int (P:=P) w d f.type k k n m hk,by simp⟩
   ·exact ⟨_,_,_,hn,hm,Qj w LC hn,Qj w LC hm,run_equalIn_bool' (P:=P) w d f.type n m hk,by simp⟩
   ·exact ⟨_,_,_,hn,hm,Qj w LC hn,Qj w LC hm,run_equalIn_string (P:=P) w d f.type n m hk,fun h=>by rw [WH.1 h],fun h=>by injection h with h; exact WH.2 h⟩
  cases b with
  | true=>
   obtain rfl:=hb.1 rfl;refine ⟨r,by simp only [Vf,Sm,ne_eq,not_false_eq_true,if_true,Yi,hp,cY,hq,ZQ]; simpa using hr,?_⟩;simp only [ZY,forall_eq_or_imp,hn,hm,true_and];exact L5
  | false=>
   refine ⟨false,by simp only [Vf,Sm,ne_eq,not_false_eq_true,if_true,Yi,hp,cY,hq,ZQ]; simp,?_⟩;have KF:x≠y:=fun e=>by have:=hb.2 e; cases this
   simp [hn,hm,KF]
theorem Bt {t:ZN}{fs:Array Field}(xs ys:Array Zl)(hu:P.underlying t=some (.struct fs))(hp:P.stoodInHeld t=false)(hx: ∀f ∈ fs.toList,IA P xs ys f) :
  ∃r,(Vo 10000 t (.agg xs) (.agg ys)).run P w= .ok r w∧(r=true ↔ ∀f ∈ fs.toList,xs[f.offset]?=ys[f.offset]?):=by
 have hf:P.fieldsOf t=fs:=by simp [Program.fieldsOf,hu]
 rw [run_equalIn_struct w 9999 t xs ys (by rw [hf]; exact hu) hp,hf];exact Nk w 9998 xs ys _ hx
end
theorem PN {w:Zc}{base b off n:Nat}{cs:List Zl}(h:w.cells? base ((⟨b,off,none⟩ :Addr).add n) cs.length=some cs) :w.rangeAt b (off+n) cs:=fun j v hv=>by
 obtain ⟨_,_,h2⟩:=World.cells?_some h;have:=h2 j (Zi.1 hv).1;rw [add_plain,add_plain] at this;exact this.trans hv
def de {α:Type}(row:α→List Zl)(k:Nat)(Fit:α→Prop)(w:Zc)(a:Option Addr)(len cap:Nat) :Prop:=
 len≤cap∧cap≤maxLen∧ ∃l:List α,l.length=len∧(∀v ∈ l,Fit v)∧Kc row k w (fun _=>False) a l
section
variable {α:Type} [Inhabited α] {row:α→List Zl} {k:Nat} {Fit:α→Prop} {H:Type} {enc:ZN × Zl→H} {P:YO} {w:Zc} {base:Nat} {held:Bool}
theorem CB {t e:ZN}{n:Nat}{v:Zl}{y:DataW H × List MemPlace}(ht:P.underlying t=some (.slice e))(hC:P.cellsOf e=k)(hk: ∀v,(row v).length=k)(hp:0 < k)
  (htr: ∀(n:Nat) (cs:List Zl) (x:DataW H × List MemPlace),DataW.trod enc P w base (fun _=>true) held n e cs=some x→cs.length=k→ ∃v:α,cs=row v∧Fit v)
  (hf:DataW.trod enc P w base (fun _=>true) held n t [v]=some y) : ∃(a:Option Addr) (len cap:Nat),v= .slice a len cap∧de row k Fit w a len cap:=by
 rcases open_slice ht hf with h0 | ⟨x,l,c,m,n,D,Pl,Fi,hb,hl,hm,hmm,hx,hi⟩
 ·have Fi:=h0.1;injection Fi with Fi;exact ⟨none,0,0,Fi,by omega,by unfold maxLen; omega,[],rfl,by simp,Kc.nil _ _ _⟩
 ·injection Fi with Fi;rw [hC] at hi;obtain ⟨f,vg⟩:=choose_lt (α:=α) (p:=fun i v=>w.cells? base (x.add (i*k)) k=some (row v)∧Fit v) (n:=l) (fun i Fz=>by
   obtain ⟨cs',h1,h2⟩:=hi i (by rw [hmm]; simp; omega);obtain ⟨v,rfl,Dv⟩:=htr _ _ _ h2 (World.cells?_some h1).2.1;exact ⟨v,h1,Dv⟩)
  refine ⟨some x,l,c,by simpa using Fi,by simpa using hl,hm,(List.range l).map f,by simp,fun v hv=>?_,fun h0=>?_⟩
  ·obtain ⟨i,Mh,rfl⟩:=List.mem_map.1 hv;exact (vg i (by simpa using Mh)).2
  ·simp at h0;obtain ⟨b,off,spot⟩:=x;have Ol:=(World.cells?_some (vg 0 h0).1).2.2 0 hp;rw [Nat.zero_mul] at Ol;have hl0:0 < (row (f 0)).length:=by rw [hk]; exact hp
   rw [Zf hl0] at Ol;have hs:spot=none:=by
    have:=World.cell?_spot Ol;simpa [Addr.add] using this
   subst hs;refine ⟨b,off,rfl,fun h=>h,by have:=cell_lt Ol; rwa [add_plain,add_plain] at this,fun i v hiv=>?_⟩;simp only [ZP] at hiv;have Fz:i < l:=by
    rcases Nat.lt_or_ge i l with h | h
    ·exact h
    ·simp [h] at hiv
   simp [Fz] at hiv;subst hiv;exact PN (base:=base) (by rw [hk]; exact (vg i Fz).1)
theorem open_lstR {t e:ZN}{r:Reach}{b0:Nat}{v:Zl}{d:DataW H}{p:List MemPlace}(ht:P.underlying t=some (.slice e))(hC:P.cellsOf e=k)(hk: ∀v,(row v).length=k)(hp:0 < k)
  (htr: ∀(n:Nat) (cs:List Zl) (x:DataW H × List MemPlace),DataW.trod enc P w base (fun _=>true) held n e cs=some x→cs.length=k→ ∃v:α,cs=row v∧Fit v)
  (hv:Value.okWide P w r b0 t v) (h:DataW.Trod enc P w base (fun _=>true) held t v d p) : ∃(a:Option Addr) (len cap:Nat),v= .slice a len cap∧de row k Fit w a len cap:=by
 obtain ⟨a,len,cap,rfl⟩:=okWide_slice ht hv;obtain ⟨fuel,hf⟩:=h;exact CB ht hC hk hp htr hf
end
end
section
open Go Go.ChangeShapes Go.WideShapes Go.RowKit Go.Deep
structure Py where
 ix:Int
 am:Int
 fu:Bool
deriving DecidableEq,Inhabited
def Py.row (v:Py) :List Zl:= [.int .i64 v.ix,.int .u64 v.am,.bool v.fu]
def J8 (v:Py) :Array Zl:=v.row.toArray
def pyZ:Py:=⟨0,0,false⟩
theorem Py.row_len (v:Py) :v.row.length=3:=rfl
theorem Py.row_one (v:Py) : ∀u ∈ v.row,u.oneCell'=true:=by
 intro u hu;simp only [Py.row,ZY,Yf,or_false] at hu;exact jD
theorem I0 (v:Py) :(J8 v).all (·.oneCell')=true:=by
 refine ZT.2 (fun u hu=>Py.row_one v u (by simpa [J8] using hu))
theorem Fu (v:Py) :(J8 v).size=3:=rfl
theorem pP:(Tryz.prog.info? 61).map (·.size)=some 3:=by kernel_rfl
theorem gT: ∃i,Tryz.prog.info? 61=some i∧i.zero=some (.agg (J8 pyZ))∧i.size=3∧i.bytes=24:=by
 have h:(Tryz.prog.info? 61).map (fun i=>(i.zero,i.size,i.bytes))=some (some (.agg (J8 pyZ)),3,24):=by kernel_rfl
 exact Zgk
section
variable {P:YO} {ops:Array Oper} {rest:List Oper} {op:Oper} {a:Act} {w:Zc} {Q:Exit→Act→Zc→Prop}
theorem Ha (hg:op.guard=none)(t:ZN)(parts:Array (Nat × Yz))(ho:op.op= .build t parts)(v:Py)
  (hf:P.built t (parts.map fun (i,x)=>(i,a.eval x)).toList=some (J8 v)) (h:wpList P ops Q rest (a.put op.dst (.agg (J8 v))) w) :wpList P ops Q (op::rest) a w:=
 wpList_build hg t parts ho (by rw [hf]; rfl) Io
end
theorem lY (x:Py)(w:Zc) :(Xc 40 1 #[(0,.agg (J8 x))]).run Zb w= .ok (.slice (some ⟨w.heap.size,0,none⟩) 1 1) (w.alloc (.cells (J8 x) 61)):=by
 obtain ⟨i,hi,hz,hs,LJ⟩:=gT;simp [Xc,run_underlying Tryz.underlying40,sizeOf,typeInfo,hi,hz,hs,Instr.fill,newRow,go_sem,J8,Py.row]
theorem rF {o:Oper}{a:Act}{w:Zc}{K:Act→Zc→Prop}{Q:Exit→Act→Zc→Prop}(x:Yz)(p:Py)(ho:o.op= .buildSlice 40 1 #[(0,x)])(hx:a.eval x= .agg (J8 p))
  (h:K (a.put o.dst (.slice (some ⟨w.heap.size,0,none⟩) 1 1)) (w.alloc (.cells (J8 p) 61))) :o.wp Zb a w K Q:=by
 unfold Jj Xn;simp only [ho,Q3,Y2,J6,hx,Yi,lY p w,ZQ,YC];exact h
theorem NS {ops:Array Oper}{rest:List Oper}{o:Oper}{a:Act}{w:Zc}{Q:Exit→Act→Zc→Prop}(DV:o.guard=none)(x:Yz)(p:Py)(ho:o.op= .buildSlice 40 1 #[(0,x)])(hx:a.eval x= .agg (J8 p))
  (h:wpList Zb ops Q rest (a.put o.dst (.slice (some ⟨w.heap.size,0,none⟩) 1 1)) (w.alloc (.cells (J8 p) 61))) :wpList Zb ops Q (o::rest) a w:=
 wpList_plain DV fun _ hK=>rF x p ho hx (hK _ _ h)
end
end Go.Proofs.YtianiiijaopdpaaGreat
