/- Part 24 of 58: L07Base L07Get L07Sums L07Excl L07Two L07AddV L07SetV L07SetO L07SetW L07AllV L16Pair L16Plain. -/
import Derived.Test.YtianiiijaopdpaaGreatZu00
import Derived.Test.YtianiiijaopdpaaGreatZu04
import Derived.Test.YtianiiijaopdpaaGreatZu06
import Derived.Test.YtianiiijaopdpaaGreatZu11
import Derived.Test.YtianiiijaopdpaaGreatZu21
namespace Go.Proofs.YtianiiijaopdpaaGreat
set_option linter.unusedVariables false
set_option linter.unusedSimpArgs false
set_option maxRecDepth 100000
set_option maxHeartbeats 8000000
open _root_.Go.Act renaming put → YL
open _root_.Go.RowKit renaming Below → Zt
open _root_.Go.RowKit.Below renaming refl → Zr
open _root_.Go.Proofs.YtianiiijaopdpaaGreat.Zy renaming alloc → YF, drew → J3, drewN → Xz, far → Ju, new → Zw
open _root_.Go renaming Calls → Zi, Operand → YI, Program → YZ, TypeId → ZT, Value → Zo, World → Zc, execOp → Xr, heap_alloc_new → ZD, run_eqGuard_agg → KK, wpList_store_row → Zm, wpQuiet → ZB, wpQuiet_nil → Zj
open _root_.Go.Instr renaming buildSlice → Y1
open _root_.Int renaming toNat_natCast → YX
open _root_.Go.Proofs.YtianiiijaopdpaaGreat.Kept renaming of_below → Y4, refl → ZM
open _root_.Go.Lib renaming hid → Za
open _root_.List renaming append_assoc → XK, cons_append → Ym, eq_nil_of_length_eq_zero → Z3, getElem?_eq_getElem → Zf, getElem?_eq_some_iff → Zh, getElem?_set_ne → YG, length_cons → Yu, length_set → Xw, mem_of_getElem? → ZE, set_eq_take_append_cons_drop → GV, take_append_drop → XF
open _root_.Nat renaming le_refl → Zg, mul_le_mul_right → X3
open _root_.Ne renaming symm → QA
open _root_.Go.NoPanic renaming normal → ZH
open _root_.Go.Region renaming seqB → YH
open _root_.Go.Result renaming andThen_ok → ZW
open _root_.Go.Sem renaming run_bind → Yl, run_pure → YJ
open _root_.Go.Proofs.Tryz renaming call23 → GQ, prog → Zb, underlying143 → QX, underlying46 → Ud, underlying63 → Zs
open _root_.Go.Value renaming ownBlock → Xq, slice → Yr
open _root_.Go.World.ownsRow renaming alloc → QG
open _root_.Go.World renaming ownsRow_nil → Xj, setRow_alloc_new → Zu
theorem Ef {G:Prop}(h:G:=by simp only; omega) :G:=h
theorem UT {G:Prop}(h:G:=by simp [hx]) :G:=h
theorem IJ {G:Prop}(h:G:=by have:=Zy.new (w.alloc (.cells #[.pointer (some ⟨b,0,none⟩)] 88)) 63 (Zd v); simpa using this) :G:=h
theorem US {G:Prop}(h:G:=by unfold maxLen; omega) :G:=h
theorem DO {G:Prop}(h:G:=by decide) :G:=h
theorem zT8 {G:Prop} (h:G:=by
  clear x0 x1 c2 c3 c4 f3 f4 HB HK HE W;obtain ⟨-,-,c2,-,-⟩:=HR.out.cells;refine Bj 8 ?_;simp only [qT,qD];iterate 6 (go_big_quiet_step (fail))
  refine If _ _ rfl rfl (fun w h=>by obtain ⟨n,rfl⟩:=h; exact HR.out.2.drewN n) Tryz.underlying3 Tryz.underlying185 zero_int v.st rfl rfl HW.out ?_;rw [yV.out];simp only [qB]
  repeat (go_big_quiet_step (fail))
  refine wpQuiet_nil ?_;intro _ Jw;obtain ⟨n3,Xl⟩:=Jw;subst Xl;refine NY rfl _ _ _ rfl (HR.out.2.drewN n3) Tryz.underlying3 Tryz.underlying185 v.st (cs - 1) rfl rfl rfl HW.out ?_;intro W3 lN hg3;have HZ:=Lib.hid (And.intro ((HR.out.drewN n3).counted lN hg3) ((Na.out.drewN n3).trans (Kept.of_grown (S:=fun i=>i=m) hg3 (fun i hi=>by injection hi)) (fun i _ e=> .inr e)));have c23:=(c2:W2.cell? ⟨b,2,none⟩=_);have z1:W3.cell? ⟨n0,1,none⟩=some (.int .i64 v.st):=(World.cell?_of_block (w:=W2) (a:=⟨n0,1,none⟩) (hg3.block n0 (UH y1) (by intro e; injection e with e; subst e; obtain ⟨es,clock,hm,_⟩:=HR.out.2; simp [World.cell?,hm] at y1))).trans y1;have HC3:=Lib.hid lN;clear lN hg3 y1 c2 c23;have d2:=HZ.out.1.cells.2.2.1;have GS:OT c v.st (cs - 1) v.st=cs - 1:=by simp [OT]
  have HS:=Lib.hid GS;clear GS;go_wp2;simp only [Act.put];refine XO (fun w'=> ∃n,w'=W3.drewN n) Yi Yi ⟨1,rfl⟩ ?_;iterate 6 (go_big_quiet_step (fail))
  refine If _ _ rfl rfl (fun w h=>by obtain ⟨n,rfl⟩:=h; exact HC3.out.drewN n) Tryz.underlying3 Tryz.underlying185 zero_int v.st rfl rfl HW.out ?_;rw [HS.out];simp only [qB]
  repeat (go_big_quiet_step (fail))
  refine wpQuiet_nil ?_;intro _ Jw;obtain ⟨n4,Xl⟩:=Jw;subst Xl
  by_cases hz:((cs - 1:Int)==0)=true
  ·go_wp2_with fail;refine Bj 6 ?_;simp only [qT,qD]
   repeat (go_big_quiet_step (fail))
   refine wpQuiet_nil ?_;intro _ Jw;obtain ⟨n5,Xl⟩:=Jw;subst Xl;refine TS rfl _ _ rfl ((HC3.out.drewN n4).drewN n5) Tryz.underlying3 Tryz.underlying185 v.st rfl rfl HW.out (by rw [HS.out]; simpa using hz) ?_;intro W4 hc4 hg4;have HY:=Lib.hid (And.intro (RegB.counted ((HZ.out.1.drewN n4).drewN n5) hc4 hg4) (((HZ.out.2.drewN n4).drewN n5).trans (Kept.of_grown (S:=fun i=>i=m) hg4 (fun i hi=>by injection hi)) (fun i _ e=> .inr e)));clear hc4 hg4;go_wp2;go_end0;exact ⟨rfl,HY.out⟩
  ·have hz:((cs - 1:Int)==0)=false:=by simpa using hz
   go_wp2_with fail;go_end0;exact ⟨rfl,HZ.out.1.drewN n4,HZ.out.2.drewN n4⟩) :G:=h
theorem Zf1 {G:Prop} (h:G:=by
  have hI:=Tryz.underlying3;have p0:(part 3 (cellsP x) 0).run Tryz.prog w= .ok (.int .i64 x.1) w:=run_part_plain w (UM hI) rfl;have p1:(part 3 (cellsP x) 1).run Tryz.prog w= .ok (.int .i64 x.2) w:=run_part_plain w (UM hI) rfl;have q0:(part 3 (cellsP y) 0).run Tryz.prog w= .ok (.int .i64 y.1) w:=run_part_plain w (UM hI) rfl;have q1:(part 3 (cellsP y) 1).run Tryz.prog w= .ok (.int .i64 y.2) w:=run_part_plain w (UM hI) rfl;have e0:(Op.equalIn 9999 3 (.int .i64 x.1) (.int .i64 y.1)).run Tryz.prog w=_:=run_equalIn_int (P:=Tryz.prog) w 9998 _ .i64 .i64 x.1 y.1 hI;have e1:(Op.equalIn 9999 3 (.int .i64 x.2) (.int .i64 y.2)).run Tryz.prog w=_:=run_equalIn_int (P:=Tryz.prog) w 9998 _ .i64 .i64 x.2 y.2 hI;rw [show List.range 2=[0,1] from rfl];simp only [Op.eqItems,Sem.run_bind,Nat.zero_mul,Nat.one_mul,p0,q0,e0,Result.andThen_ok]
  by_cases h0:x.1=y.1
  ·have hb:(x.1==y.1)=true:=by simpa using h0
   simp [hb,p1,q1,e1]
   by_cases h1:x.2=y.2 <;> simp [h0,h1,Prod.ext_iff]
  ·simp [h0,Prod.ext_iff]) :G:=h
theorem Zf4 {G:Prop} (h:G:=by
  clear x0 x1 c2 c3 c4 f3 f4 HB HK HE W;obtain ⟨-,-,c2,-,-⟩:=HR.out.cells;refine Bj 8 ?_;simp only [qT,qD];iterate 6 (go_big_quiet_step (fail))
  refine If _ _ rfl rfl (fun w h=>by obtain ⟨n,rfl⟩:=h; exact HR.out.2.drewN n) Tryz.underlying3 Tryz.underlying185 zero_int v.st rfl rfl HW.out ?_;rw [yV.out];simp only [qB]
  repeat (go_big_quiet_step (fail))
  refine wpQuiet_nil ?_;intro _ Jw;obtain ⟨n3,Xl⟩:=Jw;subst Xl;refine NY rfl _ _ _ rfl (HR.out.2.drewN n3) Tryz.underlying3 Tryz.underlying185 v.st (cs+1) rfl rfl rfl HW.out ?_;intro W3 lN hg3;have HZ:=Lib.hid (And.intro ((HR.out.drewN n3).counted lN hg3) ((Na.out.drewN n3).trans (Kept.of_grown (S:=fun i=>i=m) hg3 (fun i hi=>by injection hi)) (fun i _ e=> .inr e)));clear lN hg3;go_wp2;go_end0;exact ⟨rfl,HZ.out⟩) :G:=h
theorem Zga {G:Prop} (h:G:=by
  have e1:=total_set hi Z9;have e2:=active_set hi Z9;have e3:=count_set hi ⟨0,Qi.st+1,false,0,0,0,0⟩ Qi.st;have wD: ∀x ∈ l.set i Z9,Yq x:=fun x hx=>by
   rcases List.mem_or_eq_of_mem_set hx with hx | rfl
   ·exact hf x hx
   ·exact ⟨by decide,by decide⟩
  have a1:=total_nonneg wD;have a2:=active_le wD;have a3:=count_bounds (l.set i ⟨0,Qi.st+1,false,0,0,0,0⟩) Qi.st;have z1:Z9.bal=0:=rfl;have z2:liveBal Z9=0:=rfl;simp only [if_true] at e3;rw [if_neg Zp] at e3;refine ⟨by omega,by omega,by omega,by omega⟩) :G:=h
theorem ZgJ {G:Prop} (h:G:=by
  rw [←hw3];exact ⟨ZK _ Mb.out.1,ZK _ Mb.out.2.1,ZK _ Mb.out.2.2.1,ZK _ Mb.out.2.2.2⟩) :G:=h
theorem ZgW {G:Prop} (h:G:=by
  have:=h.1;unfold Zy at this;rw [h3] at this;injection this with this;injection this with _ h9;exact absurd h9 DO) :G:=h
theorem sW {G:Prop} (h:G:=by
  rw [List.getD_eq_getElem?_getD,List.getElem?_eq_getElem Zp];rfl) :G:=h
theorem ZaO {G:Prop} (h:G:=by
  rw [←MG];exact ⟨ZK _ X4.out,ZK _ Y0.out⟩) :G:=h
theorem ZaS {G:Prop} (h:G:=by
  go_enter Tryz.func276,Tryz.ntmps276;go_wp2;go_ret;exact ⟨rfl,rfl⟩) :G:=h
theorem ZaV {G:Prop} (h:G:=by
  go_enter Tryz.func69,Tryz.ntmps69;go_wp2;go_ret;exact ⟨rfl,rfl⟩) :G:=h
theorem kt {G:Prop} (h:G:=by
  rw [List.getElem?_set_ne Kt];exact hj) :G:=h
section
open Go Go.RowKit Go.Deep
def Bm (s:Int) :Bool:=decide (s=2∨s=3)
def ZA:List Yd→Int
 | []=>0
 | v::l=>v.bal+ZA l
def liveBal (v:Yd) :Int:=if Bm v.st=true then v.bal else 0
def ZY:List Yd→Int
 | []=>0
 | v::l=>liveBal v+ZY l
def Xk:List Yd→Int→Int
 | [],_=>0
 | v::l,s=>(if v.st=s then 1 else 0)+Xk l s
theorem SQ {v:Yd}(h:0≤v.bal) :0≤liveBal v∧liveBal v≤v.bal:=by unfold liveBal; split <;> omega
theorem UP (l m:List Yd) :ZA (l++m)=ZA l+ZA m:=by
 induction l with
 | nil=>simp [ZA]
 | cons v l ih=>simp only [Ym,ZA,ih]; omega
theorem Gf (l m:List Yd) :ZY (l++m)=ZY l+ZY m:=by
 induction l with
 | nil=>simp [ZY]
 | cons v l ih=>simp only [Ym,ZY,ih]; omega
theorem BY (l m:List Yd)(s:Int) :Xk (l++m) s=Xk l s+Xk m s:=by
 induction l with
 | nil=>simp [Xk]
 | cons v l ih=>simp only [Ym,Xk,ih]; omega
theorem total_nonneg {l:List Yd}(h: ∀v ∈ l,Yq v) :0≤ZA l:=by
 induction l with
 | nil=>simp [ZA]
 | cons v l ih=>
  have h1:=(h v ZO).bal;have h2:=ih (fun x hx=>h x UT);simp only [ZA]; omega
theorem active_le {l:List Yd}(h: ∀v ∈ l,Yq v) :0≤ZY l∧ZY l≤ZA l:=by
 induction l with
 | nil=>simp [ZA,ZY]
 | cons v l ih=>
  have h1:=SQ (h v ZO).bal.1;have h2:=ih (fun x hx=>h x UT);simp only [ZA,ZY]; omega
theorem count_bounds (l:List Yd)(s:Int) :0≤Xk l s∧Xk l s≤l.length:=by
 induction l with
 | nil=>simp [Xk]
 | cons v l ih=>
  simp only [Xk,Yu]
  split <;> omega
theorem TC {l:List Yd}{i:Nat}{Qi:Yd}(h:l[i]?=some Qi) : ∃l1 l2,l=l1++Qi::l2∧ ∀v,l.set i v=l1++v::l2:=by
 have hi:=(Zh.1 h).1;have he:=(Zh.1 h).2;refine ⟨l.take i,l.drop (i+1),?_,fun v=>?_⟩
 ·rw [←he];rw [List.getElem_cons_drop,XF]
 ·rw [GV,if_pos hi]
theorem total_set {l:List Yd}{i:Nat}{Qi:Yd}(h:l[i]?=some Qi)(v:Yd) :ZA (l.set i v)=ZA l - Qi.bal+v.bal:=by
 obtain ⟨l1,l2,h1,h2⟩:=TC h;rw [h2,h1,UP,UP];simp only [ZA]; omega
theorem active_set {l:List Yd}{i:Nat}{Qi:Yd}(h:l[i]?=some Qi)(v:Yd) :ZY (l.set i v)=ZY l - liveBal Qi+liveBal v:=by
 obtain ⟨l1,l2,h1,h2⟩:=TC h;rw [h2,h1,Gf,Gf];simp only [ZY]; omega
theorem count_set {l:List Yd}{i:Nat}{Qi:Yd}(h:l[i]?=some Qi)(v:Yd)(s:Int) :Xk (l.set i v) s=Xk l s -(if Qi.st=s then 1 else 0)+(if v.st=s then 1 else 0):=by
 obtain ⟨l1,l2,h1,h2⟩:=TC h;rw [h2,h1,BY,BY];simp only [Xk]; omega
def RegB (w:Zc)(b m:Nat)(s:Zo)(cap:Nat)(c:Int→Int)(A T:Int) :Prop:=
 Zy w b 187 #[.int .i64 cap,s,.map (some m),.int .u64 A,.int .u64 T]∧Jb w m c
def Fe (w:Zc)(b:Nat)(S:Nat→Prop)(cap:Nat)(l:List Yd) :Prop:=
 ∃m s,RegB w b m s cap (Xk l) (ZY l) (ZA l)∧w.ownsRow 0 63 7 s l.length (XC l)∧1≤cap∧cap≤4096∧l.length≤cap∧ZA l≤18446744073709551615∧(∀v ∈ l,Yq v)∧ ∀i,S i ↔ i=b∨i=m∨s.ownBlock=some i
section
variable {w w':Zc} {b m cap:Nat} {s:Zo} {S T:Nat→Prop} {l:List Yd} {c:Int→Int} {A Tt:Int}
theorem RegB.ne (h:RegB w b m s cap c A Tt) :b≠m:=by
 rintro rfl;obtain ⟨h1,es,clock,h2,_⟩:=h;unfold Zy at h1;rw [h1] at h2
 cases h2
theorem RegB.cells (h:RegB w b m s cap c A Tt) :w.cell? ⟨b,0,none⟩=some (.int .i64 cap)∧w.cell? ⟨b,1,none⟩=some s∧w.cell? ⟨b,2,none⟩=some (.map (some m))∧w.cell? ⟨b,3,none⟩=some (.int .u64 A)∧w.cell? ⟨b,4,none⟩=some (.int .u64 Tt):=
 ⟨h.1.cell 0,h.1.cell 1,h.1.cell 2,h.1.cell 3,h.1.cell 4⟩
theorem RegB.same (h:RegB w b m s cap c A Tt)(hb:w'.heap[b]?=w.heap[b]?)(hm:w'.heap[m]?=w.heap[m]?) :RegB w' b m s cap c A Tt:=⟨hb.trans h.1,h.2.same hm⟩
theorem Ut {n:Nat}{xs:List Zo}(h:w.ownsRow 0 63 7 s n xs) : ∃a cp,s= .slice a n cp∧n≤cp∧cp≤maxLen:=by
 rcases h.2 with ⟨rfl,rfl⟩ | ⟨g,cp,cur,rfl,_,_,h1,h2,_⟩
 ·exact ⟨none,0,rfl,by omega,by unfold maxLen; omega⟩
 ·exact ⟨_,cp,rfl,h1,h2⟩
theorem DC {l:List Yd}{a:Option Addr}{cp:Nat}(h:w.ownsRow 0 63 7 (.slice a l.length cp) l.length (XC l))(hS: ∀i,(Yr a l.length cp).ownBlock=some i→ ¬S i) :Dj w S a l:=fun h0=>by
 rcases h.2 with ⟨h1,h2⟩ | ⟨g,Bp,cur,h1,_,h3,_⟩
 ·omega
 ·injection h1 with h1 _ _;subst h1;refine ⟨g,0,rfl,hS g rfl,(Array.getElem?_eq_some_iff.1 h3).1,fun i v hi=>?_⟩;exact Mt (fun j u hu=>by
   have:=h.cells rfl j u hu;rwa [add_plain] at this) hi
theorem KJ {n:Nat}{xs:List Zo}(h:w.ownsRow 0 63 7 s n xs)(hb: ∀i,s.ownBlock=some i→w'.heap[i]?=w.heap[i]?) :w'.ownsRow 0 63 7 s n xs:=by
 refine ⟨h.1,h.2.imp id ?_⟩;rintro ⟨g,cp,cur,rfl,h1,h2,h3⟩;exact ⟨g,cp,cur,rfl,h1,(hb g rfl).trans h2,h3⟩
theorem Fe.lt (h:Fe w b S cap l) : ∀i,S i→i < w.heap.size:=fun i hi=>by
 obtain ⟨m,s,h1,h2,_,_,_,_,_,hS⟩:=h
 rcases (hS i).1 hi with rfl | rfl | hs
 ·exact h1.1.lt
 ·exact h1.2.lt
 ·exact (h2.lt i hs).2
theorem Fe.same (h:Fe w b S cap l)(hb: ∀i,S i→w'.heap[i]?=w.heap[i]?) :Fe w' b S cap l:=by
 obtain ⟨m,s,h1,h2,h3,h4,h5,h6,h7,hS⟩:=h;exact ⟨m,s,h1.same (hb b ((hS b).2 (.inl rfl))) (hb m ((hS m).2 (.inr (.inl rfl)))),KJ h2 (fun i hi=>hb i ((hS i).2 (.inr (.inr hi)))),h3,h4,h5,h6,h7,hS⟩
theorem Fe.kept (h:Fe w b S cap l)(k:Kept T w w')(hT: ∀i,S i→ ¬T i) :Fe w' b S cap l:=h.same fun i hi=>k.block i (h.lt i hi) (hT i hi)
theorem Fe.below (h:Fe w b S cap l)(k:Zt w.heap.size w w') :Fe w' b S cap l:=h.same fun i hi=>k.block i (h.lt i hi)
theorem Fe.alloc (h:Fe w b S cap l)(o:Obj) :Fe (w.alloc o) b S cap l:=h.below ((Zr _ _).alloc (Zg _) o)
theorem Fe.drewN (h:Fe w b S cap l)(n:Nat) :Fe (w.drewN n) b S cap l:=h
theorem Fe.drew (h:Fe w b S cap l) :Fe w.drew b S cap l:=h
theorem Fe.pos (h:Fe w b S cap l) :S b:=by
 obtain ⟨m,s,h1,h2,h3,h4,h5,h6,h7,hS⟩:=h;exact (hS b).2 (.inl rfl)
theorem Fe.fits (h:Fe w b S cap l) :1≤cap∧cap≤4096∧l.length≤cap∧ZA l≤18446744073709551615∧ ∀v ∈ l,Yq v:=by
 obtain ⟨m,s,h1,h2,h3,h4,h5,h6,h7,hS⟩:=h;exact ⟨h3,h4,h5,h6,h7⟩
theorem Fe.cells (h:Fe w b S cap l) : ∃m a cp,w.cell? ⟨b,0,none⟩=some (.int .i64 cap)∧w.cell? ⟨b,1,none⟩=some (.slice a l.length cp)∧w.cell? ⟨b,2,none⟩=some (.map (some m))∧w.cell? ⟨b,3,none⟩=some (.int .u64 (ZY l))∧w.cell? ⟨b,4,none⟩=some (.int .u64 (ZA l))∧
  l.length≤cp∧cp≤maxLen∧Jb w m (Xk l)∧Dj w (fun _=>False) a l:=by
 obtain ⟨m,s,h1,h2,h3,h4,h5,h6,h7,hS⟩:=h;obtain ⟨a,cp,rfl,q1,q2⟩:=Ut h2;exact ⟨m,a,cp,h1.cells.1,h1.cells.2.1,h1.cells.2.2.1,h1.cells.2.2.2.1,h1.cells.2.2.2.2,q1,q2,h1.2,DC h2 (fun _ _ h=>h)⟩
end
theorem Nz (s:Int)(w:Zc) :Zi Zb 276 #[.int .i64 s] w fun e w'=>e= .returned (.bool (Bm s))∧w=w':=by
 by_cases h2:s=2
 ·subst h2;exact ZaS
 ·by_cases h3:s=3
  ·subst h3;exact ZaS
  ·have hb:Hid (Bm s=false):=Za (by unfold Bm; simp [h2,h3]);go_enter Tryz.func276,Tryz.ntmps276;go_wp2;go_ret;exact ⟨by rw [hb.out]; simp [h2,h3],rfl⟩
theorem cJ (s:Int)(w:Zc) :Zi Zb 69 #[.int .i64 s] w fun e w'=>e= .returned (.bool (Bm s))∧w=w':=by
 by_cases h2:s=2
 ·subst h2;exact ZaV
 ·by_cases h3:s=3
  ·subst h3;exact ZaV
  ·have hb:Hid (Bm s=false):=Za (by unfold Bm; simp [h2,h3]);go_enter Tryz.func69,Tryz.ntmps69;go_wp2;go_ret;exact ⟨by rw [hb.out]; simp [h2,h3],rfl⟩
theorem wT (s:Nat)(w:Zc)(h:1≤s)(h2:s≤4096) :
  Zi Zb 73 #[.int .i64 s] w fun e w'=>e= .returned (.pointer (some ⟨w.heap.size+1,0,none⟩))∧(w.alloc (.map #[] 0)).alloc (.cells #[.int .i64 s,.slice none 0 0,.map (some w.heap.size),.int .u64 0,.int .u64 0] 187)=w':=by
 have h0: ¬(s:Int)< 1:=by omega
 have h3: ¬(4096:Int)< (s:Int):=by omega
 have hmm:= @run_makeMap Zb;go_enter Tryz.func73,Tryz.ntmps73;exact Vr
theorem fF (cap:Nat)(w:Zc)(h:1≤cap)(h2:cap≤4096) :
  Zi Zb 73 #[.int .i64 cap] w fun e w'=> ∃b S,e= .returned (.pointer (some ⟨b,0,none⟩))∧Fe w' b S cap []∧(∀i,S i→w.heap.size≤i)∧Zt w.heap.size w w':=by
 refine (wT cap w h h2).mono ?_;rintro e w' ⟨rfl,rfl⟩;refine ⟨w.heap.size+1,fun i=>i=w.heap.size+1∨i=w.heap.size,rfl,⟨w.heap.size,.slice none 0 0,⟨?_,?_⟩,Xj _ _ _ _,h,h2,by simp,by simp [ZA],by simp,fun i=>by simp [Xq]⟩,fun i hi=>by omega,?_⟩
 ·have:=Zw (w.alloc (.map #[] 0)) 187 #[.int .i64 cap,.slice none 0 0,.map (some w.heap.size),.int .u64 0,.int .u64 0];simpa [ZY,ZA] using this
 ·exact ((eo w).alloc _).congr (fun q=>by simp [Xk])
 ·exact ((Zr _ _).alloc (Zg _) _).alloc ZO _
theorem CT (b n cp:Nat)(a:Option Addr)(w:Zc)(h:w.cell? ⟨b,1,none⟩=some (.slice a n cp)) :Zi Zb 119 #[.pointer (some ⟨b,0,none⟩)] w fun e w'=>e= .returned (.int .i64 n)∧w=w':=by
 go_enter Tryz.func119,Tryz.ntmps119;exact Vr
theorem dU (b:Nat)(A:Int)(w:Zc)(h:w.cell? ⟨b,3,none⟩=some (.int .u64 A)) :Zi Zb 56 #[.pointer (some ⟨b,0,none⟩)] w fun e w'=>e= .returned (.int .u64 A)∧w=w':=by
 go_enter Tryz.func56,Tryz.ntmps56;exact Vr
theorem zero_int (w:Zc) :(zeroValue 3).run Zb w= .ok (.int .i64 0) w:=by
 obtain ⟨i,hi,hz,_⟩:=Nx (P:=Zb) (t:=3) (z:= .int .i64 0) (n:=1) Yi;simp [zeroValue,typeInfo,hi,hz,Result.andThen]
theorem ld (b m:Nat)(c:Int→Int)(s:Int)(w:Zc)(h:w.cell? ⟨b,2,none⟩=some (.map (some m)))(hc:Jb w m c)(hs:(Lit.int .i64 s).wf=true) :
  Zi Zb 287 #[.pointer (some ⟨b,0,none⟩),.int .i64 s] w fun e w'=>e= .returned (.int .i64 (c s))∧w=w':=by
 have hl:=hc.lookup Tryz.underlying3 Tryz.underlying185 (zero_int w) hs;generalize c s=q at*;clear hc;go_enter Tryz.func287,Tryz.ntmps287;exact Vr
theorem vS (p:Option Addr)(i:Int)(w:Zc)(h:i < 0) :Zi Zb 117 #[.pointer p,.int .i64 i] w fun e w'=>e= .returned (.bool false)∧w=w':=by
 have h1: ¬0≤i:=by omega
 go_enter Tryz.func117,Tryz.ntmps117;exact Vr
theorem jf (b n cp:Nat)(a:Option Addr)(i:Int)(w:Zc)(h:w.cell? ⟨b,1,none⟩=some (.slice a n cp))(ho:i < 0∨n≤i) :Zi Zb 117 #[.pointer (some ⟨b,0,none⟩),.int .i64 i] w fun e w'=>e= .returned (.bool false)∧w=w':=by
 by_cases h0:i < 0
 ·exact vS _ i w h0
 ·have h1:0≤i:=by omega
  have h2: ¬i < n:=by omega
  clear ho;go_enter Tryz.func117,Tryz.ntmps117;go_wp2_with fail;refine (CT b n cp a _ h).mono ?_;rintro e w' ⟨rfl,rfl⟩;go_wp2;go_ret;exact ⟨JR Vq,rfl⟩
theorem CN (b n cp i:Nat)(a:Option Addr)(w:Zc)(h:w.cell? ⟨b,1,none⟩=some (.slice a n cp))(ho:i < n) :Zi Zb 117 #[.pointer (some ⟨b,0,none⟩),.int .i64 i] w fun e w'=>e= .returned (.bool true)∧w=w':=by
 have h1:(0:Int)≤i:=by omega
 have h2:(i:Int)< n:=by omega
 go_enter Tryz.func117,Tryz.ntmps117;go_wp2_with fail;refine (CT b n cp a _ h).mono ?_;rintro e w' ⟨rfl,rfl⟩;exact Vr
end
section
open Go Go.RowKit Go.Deep
theorem UQ {P:YZ}{ops:Array Oper}{rest:List Oper}{o:Oper}{a:Act}{w:Zc}{Q:Exit→Act→Zc→Prop}(hg:o.guard=none)(t:ZT)(parts:Array (Nat × YI))(ho:o.op= .build t parts)(v:Yd)
  (hf:P.built t (parts.map fun (i,x)=>(i,a.eval x)).toList=some (Zd v)) (h:wpList P ops Q rest (a.put o.dst (.agg (Zd v))) w) :wpList P ops Q (o::rest) a w:=
 wpList_build hg t parts ho (by rw [hf]; rfl) (by rw [hf]; exact h)
theorem Zby (p:Option Addr)(i:Int)(w:Zc)(h: ∀w',Zt w.heap.size w w'→Zi Zb 117 #[.pointer p,.int .i64 i] w' fun e w''=>e= .returned (.bool false)∧w'=w'') :
  Zi Zb 70 #[.pointer p,.int .i64 i] w fun e w'=>e= .returned (.tuple #[.agg (Zd Z9),.bool false])∧Zt w.heap.size w w':=by
 have H:=Za (h (w.alloc (.cells (Zd Z9) 63)) ((Zr _ _).alloc (Zg _) _));clear h;go_enter Tryz.func70,Tryz.ntmps70;go_wp2_with fail;refine H.out.mono ?_;rintro e w' ⟨rfl,rfl⟩;go_wp2_with (first | (refine UQ rfl 63 _ rfl Z9 Yi ?_) | (refine Zm rfl _ _ _ rfl w.heap.size (Zd Z9) rfl rfl 63 _ (ZD w _) Yo rfl (Yy _) ?_; rw [Zu]));exact bodyPost_ret (v:= .tuple #[.agg (Zd Z9),.bool false]) (XN (fn:=Tryz.f70) rfl _ _ w.heap.size 63 _ (0,0) _ rfl (ZD w _) Zs rfl Yo) rfl ⟨rfl,(Zr _ _).alloc (Zg _) _⟩
theorem Zbx (b n cp i g off:Nat)(v:Yd)(w:Zc)(h:w.cell? ⟨b,1,none⟩=some (.slice (some ⟨g,off,none⟩) n cp))(hi:i < n)(hr:w.rangeAt g (off+i*7) v.row) :
  Zi Zb 70 #[.pointer (some ⟨b,0,none⟩),.int .i64 i] w fun e w'=>e= .returned (.tuple #[.agg (Zd v),.bool true])∧Zt w.heap.size w w':=by
 have hB:=(Zr w.heap.size w).alloc (Zg _) (.cells (Zd Z9) 63);have h1:(w.alloc (.cells (Zd Z9) 63)).cell? ⟨b,1,none⟩=some (.slice (some ⟨g,off,none⟩) n cp):=ZK _ h;have qx:(w.alloc (.cells (Zd Z9) 63)).rangeAt g (off+i*7) v.row:=fun j u hu=>ZK _ (hr j u hu)
 have H:=Za (CN b n cp i (some ⟨g,off,none⟩) _ h1 hi);have HR:=Za qx;have hi1: ¬(i:Int)< 0:=by omega
 have Uq: ¬(n:Int)≤(i:Int):=by omega
 have hi3:(i:Int)< (n:Int):=by omega
 clear h hr qx;go_enter Tryz.func70,Tryz.ntmps70;go_wp2_with fail;refine H.out.mono ?_;rintro e w' ⟨rfl,rfl⟩;go_wp2_with (first | (refine XZ rfl 63 _ rfl g (off+i*7) rfl v _ HR.out Zs rfl Yo ?_) | (refine Zm rfl _ _ _ rfl w.heap.size (Zd v) rfl rfl 63 _ (ZD w _) Yo rfl (Yy v) ?_; rw [Zu]));exact bodyPost_ret (v:= .tuple #[.agg (Zd v),.bool true]) (XN (fn:=Tryz.f70) rfl _ _ w.heap.size 63 _ (0,0) _ rfl (ZD w _) Zs rfl Yo) rfl ⟨rfl,(Zr _ _).alloc (Zg _) _⟩
end
section
open Go Go.RowKit Go.Deep
def Di (P:YZ)(f:FuncId)(args:Array Zo)(w:Zc)(R:Ending→Zc→Prop) :Prop:=
 Zi P f args w R∧ ∀u,CallsD P f args u w fun e u' w'=>u'=u∧R e w'
theorem Cv {P:YZ}{f:FuncId}{fn:Func}{c:Code}{args:Array Zo}{w:Zc}{R:Ending→Zc→Prop}(hf:P.funcs[f]?=some fn)(hb:fn.body=some c)
  (h:c.wp P (bodyPost P fn R) { tmps:=args++Array.replicate (fn.ntmps - args.size) undef,defers:= []} w) :Di P f args w R:=
 ⟨calls_of_wp hf hb h,fun _=>callsD_of_wp hf hb h⟩
theorem Di.mono {P:YZ}{f:FuncId}{args:Array Zo}{w:Zc}{R R':Ending→Zc→Prop}(h:Di P f args w R)(hr: ∀e w',R e w'→R' e w') :Di P f args w R':=
  ⟨h.1.mono hr,fun u=>(h.2 u).mono fun e u' w' ⟨h1,h2⟩=>⟨h1,hr e w' h2⟩⟩
section
variable {w w':Zc} {b m cap:Nat} {s:Zo} {c:Int→Int} {A T:Int}
theorem RegB.alloc (h:RegB w b m s cap c A T)(o:Obj) :RegB (w.alloc o) b m s cap c A T:=⟨h.1.alloc o,h.2.alloc o⟩
theorem RegB.drewN (h:RegB w b m s cap c A T)(n:Nat) :RegB (w.drewN n) b m s cap c A T:=h
theorem RegB.total (h:RegB w b m s cap c A T)(x:Int) :RegB (w.setCell ⟨b,4,none⟩ (.int .u64 x)) b m s cap c A x:=⟨h.1.set_ 4 _,h.2.setCell (fun e=>h.ne e.symm) _⟩
theorem RegB.active (h:RegB w b m s cap c A T)(x:Int) :RegB (w.setCell ⟨b,3,none⟩ (.int .u64 x)) b m s cap c x T:=⟨h.1.set_ 3 _,h.2.setCell (fun e=>h.ne e.symm) _⟩
theorem RegB.list (h:RegB w b m s cap c A T)(x:Zo) :RegB (w.setCell ⟨b,1,none⟩ x) b m x cap c A T:=⟨h.1.set_ 1 _,h.2.setCell (fun e=>h.ne e.symm) _⟩
theorem RegB.counted (h:RegB w b m s cap c A T){c':Int→Int}(hc:Jb w' m c')(hg:w.grownBy w' (some m)) :RegB w' b m s cap c' A T:=⟨h.1.grown hg (fun e=>h.ne (by injection e)),hc⟩
end
theorem bF (b m cap:Nat)(s:Zo)(c:Int→Int)(A T:Int)(v:Yd)(w:Zc)(h:RegB w b m s cap c A T)(hv:Yq v)(hl:Bm v.st=true)
  (MD:0≤A) (hA:A+v.bal≤18446744073709551615) (CM:0≤T) (hT:T+v.bal≤18446744073709551615) (Od:0≤c v.st) (Ns:c v.st≤4096) :
  Di Zb 236 #[.pointer (some ⟨b,0,none⟩),.agg (Zd v)] w fun e w'=>e= .returned (.tuple #[])∧RegB w' b m s cap (OT c v.st (c v.st+1)) (A+v.bal) (T+v.bal)∧Kept (fun i=>i=b∨i=m) w w':=by
 have HL:Hid (∀w,Zi Zb 276 #[.int .i64 v.st] w fun e w'=>e= .returned (.bool true)∧w=w'):=Za (fun w=>by have:=Nz v.st w; rwa [hl] at this);have hK:Kept (fun i=>i=b∨i=m) w (w.alloc (.cells (Zd v) 63)):=(ZM _ w).alloc _;have hE:Zy (w.alloc (.cells (Zd v) 63)) w.heap.size 63 (Zd v):=Zw _ _ _;have Kt: ¬w.heap.size=b:=by have:=h.1.lt; omega
 have HB:=Za (h.alloc (.cells (Zd v) 63));have x0:(w.alloc (.cells (Zd v) 63)).cell? ⟨w.heap.size,0,none⟩=some (.int .u64 v.bal):=hE.cell 0;have x1:(w.alloc (.cells (Zd v) 63)).cell? ⟨w.heap.size,1,none⟩=some (.int .i64 v.st):=hE.cell 1;obtain ⟨-,-,c2,c3,c4⟩:=HB.out.cells;have f3:=HB.out.1.frozen 3;have f4:=HB.out.1.frozen 4;have v0:=hv.bal.1;have HE:=Za hE;have HK:=Za hK;have HW:=Za hv.2;obtain ⟨cs,Ff⟩ : ∃q,c v.st=q:=⟨_,rfl⟩;rw [Ff] at Od Ns ⊢;have yV:=Za Ff;obtain ⟨n0,Mm⟩ : ∃n,w.heap.size=n:=⟨_,rfl⟩;have nU: ¬n0=b:=by rw [←Mm]; exact Kt
 clear Kt;clear h hE hK hv hl Ff;refine Cv Tryz.func236 rfl ?_;simp only [Tryz.ntmps236,List.size_toArray,Yu,List.length_nil,Nat.reduceAdd,Nat.reduceSub,Array.replicate_succ,Array.replicate_zero,List.push_toArray,List.append_toArray,List.nil_append,Ym];go_wp2;generalize w.alloc (.cells (Zd v) 63)=W at*;rw [Mm] at*;refine Bj 9 ?_;simp only [qT,qD]
 repeat (go_big_quiet_step (fail))
 refine Zj ?_;intro _ Jw;obtain ⟨n1,Xl⟩:=Jw;subst Xl;go_wp2_with fail;refine (HL.out _).mono ?_;rintro e w2 ⟨rfl,rfl⟩;go_wp2_with fail;refine Bj 9 ?_;simp only [qT,qD]
 repeat (go_big_quiet_step (fail))
 refine Zj ?_;intro _ Jw;obtain ⟨n2,Xl⟩:=Jw;subst Xl;go_wp2_with fail;have HR:=Za ((((HB.out.drewN n1).total (T+v.bal)).drewN n2).active (A+v.bal));have Na:Hid (Kept (fun i=>i=b∨i=m) w ((((W.drewN n1).setCell ⟨b,4,none⟩ (.int .u64 (T+v.bal))).drewN n2).setCell ⟨b,3,none⟩ (.int .u64 (A+v.bal)))):=Za ((((HK.out.drewN n1).setCell (.inl (.inl rfl)) _).drewN n2).setCell (.inl (.inl rfl)) _);have y1:((((W.drewN n1).setCell ⟨b,4,none⟩ (.int .u64 (T+v.bal))).drewN n2).setCell ⟨b,3,none⟩ (.int .u64 (A+v.bal))).cell? ⟨n0,1,none⟩=some (.int .i64 v.st):=(Ju (Xz (Ju (Xz HE.out n1) nU _) n2) nU _).cell 1;generalize (((W.drewN n1).setCell ⟨b,4,none⟩ (.int .u64 (T+v.bal))).drewN n2).setCell ⟨b,3,none⟩ (.int .u64 (A+v.bal))=W2 at*;exact Zf4
theorem bE (b m cap:Nat)(s:Zo)(c:Int→Int)(A T:Int)(v:Yd)(w:Zc)(h:RegB w b m s cap c A T)(hv:Yq v)(hl:Bm v.st=false)
  (CM:0≤T) (hT:T+v.bal≤18446744073709551615) (Od:0≤c v.st) (Ns:c v.st≤4096) :
  Di Zb 236 #[.pointer (some ⟨b,0,none⟩),.agg (Zd v)] w fun e w'=>e= .returned (.tuple #[])∧RegB w' b m s cap (OT c v.st (c v.st+1)) A (T+v.bal)∧Kept (fun i=>i=b∨i=m) w w':=by
 have HL:Hid (∀w,Zi Zb 276 #[.int .i64 v.st] w fun e w'=>e= .returned (.bool false)∧w=w'):=Za (fun w=>by have:=Nz v.st w; rwa [hl] at this);have hK:Kept (fun i=>i=b∨i=m) w (w.alloc (.cells (Zd v) 63)):=(ZM _ w).alloc _;have hE:Zy (w.alloc (.cells (Zd v) 63)) w.heap.size 63 (Zd v):=Zw _ _ _;have Kt: ¬w.heap.size=b:=by have:=h.1.lt; omega
 have HB:=Za (h.alloc (.cells (Zd v) 63));have x0:(w.alloc (.cells (Zd v) 63)).cell? ⟨w.heap.size,0,none⟩=some (.int .u64 v.bal):=hE.cell 0;have x1:(w.alloc (.cells (Zd v) 63)).cell? ⟨w.heap.size,1,none⟩=some (.int .i64 v.st):=hE.cell 1;obtain ⟨-,-,c2,c3,c4⟩:=HB.out.cells;have f3:=HB.out.1.frozen 3;have f4:=HB.out.1.frozen 4;have v0:=hv.bal.1;have HE:=Za hE;have HK:=Za hK;have HW:=Za hv.2;obtain ⟨cs,Ff⟩ : ∃q,c v.st=q:=⟨_,rfl⟩;rw [Ff] at Od Ns ⊢;have yV:=Za Ff;obtain ⟨n0,Mm⟩ : ∃n,w.heap.size=n:=⟨_,rfl⟩;have nU: ¬n0=b:=by rw [←Mm]; exact Kt
 clear Kt;clear h hE hK hv hl Ff;refine Cv Tryz.func236 rfl ?_;simp only [Tryz.ntmps236,List.size_toArray,Yu,List.length_nil,Nat.reduceAdd,Nat.reduceSub,Array.replicate_succ,Array.replicate_zero,List.push_toArray,List.append_toArray,List.nil_append,Ym];go_wp2;generalize w.alloc (.cells (Zd v) 63)=W at*;rw [Mm] at*;refine Bj 9 ?_;simp only [qT,qD]
 repeat (go_big_quiet_step (fail))
 refine Zj ?_;intro _ Jw;obtain ⟨n1,Xl⟩:=Jw;subst Xl;go_wp2_with fail;refine (HL.out _).mono ?_;rintro e w2 ⟨rfl,rfl⟩;go_wp2_with fail;have HR:=Za ((HB.out.drewN n1).total (T+v.bal));have Na:Hid (Kept (fun i=>i=b∨i=m) w ((W.drewN n1).setCell ⟨b,4,none⟩ (.int .u64 (T+v.bal)))):=Za ((HK.out.drewN n1).setCell (.inl (.inl rfl)) _);have y1:((W.drewN n1).setCell ⟨b,4,none⟩ (.int .u64 (T+v.bal))).cell? ⟨n0,1,none⟩=some (.int .i64 v.st):=(Ju (Xz HE.out n1) nU _).cell 1;generalize (W.drewN n1).setCell ⟨b,4,none⟩ (.int .u64 (T+v.bal))=W2 at*;exact Zf4
theorem Pj (b m cap:Nat)(s:Zo)(c:Int→Int)(A T:Int)(v:Yd)(w:Zc)(h:RegB w b m s cap c A T)(hv:Yq v)
  (MD:0≤A) (hA:A≤T) (hT:T+v.bal≤18446744073709551615) (Od:0≤c v.st) (Ns:c v.st≤4096) :
  Di Zb 236 #[.pointer (some ⟨b,0,none⟩),.agg (Zd v)] w fun e w'=>e= .returned (.tuple #[])∧RegB w' b m s cap (OT c v.st (c v.st+1)) (A+liveBal v) (T+v.bal)∧Kept (fun i=>i=b∨i=m) w w':=by
 have v0:=hv.bal.1
 cases hl:Bm v.st with
 | true=>
  have e:liveBal v=v.bal:=by simp [liveBal,hl]
  rw [e];exact bF b m cap s c A T v w h hv hl MD Zp Zp hT Od Ns
 | false=>
  have e:A+liveBal v=A:=by simp [liveBal,hl]
  rw [e];exact bE b m cap s c A T v w h hv hl Zp hT Od Ns
end
section
open Go Go.RowKit Go.Deep
theorem aW (b m cap:Nat)(s:Zo)(c:Int→Int)(A T:Int)(v:Yd)(w:Zc)(h:RegB w b m s cap c A T)(hv:Yq v)(hl:Bm v.st=true)
  (MD:v.bal≤A) (hA:A≤18446744073709551615) (CM:v.bal≤T) (hT:T≤18446744073709551615) (Od:1≤c v.st) (Ns:c v.st≤4096) :
  Di Zb 242 #[.pointer (some ⟨b,0,none⟩),.agg (Zd v)] w fun e w'=>e= .returned (.tuple #[])∧RegB w' b m s cap (OT c v.st (c v.st - 1)) (A - v.bal) (T - v.bal)∧Kept (fun i=>i=b∨i=m) w w':=by
 have HL:Hid (∀w,Zi Zb 276 #[.int .i64 v.st] w fun e w'=>e= .returned (.bool true)∧w=w'):=Za (fun w=>by have:=Nz v.st w; rwa [hl] at this);have hK:Kept (fun i=>i=b∨i=m) w (w.alloc (.cells (Zd v) 63)):=(ZM _ w).alloc _;have hE:Zy (w.alloc (.cells (Zd v) 63)) w.heap.size 63 (Zd v):=Zw _ _ _;have Kt: ¬w.heap.size=b:=by have:=h.1.lt; omega
 have HB:=Za (h.alloc (.cells (Zd v) 63));have x0:(w.alloc (.cells (Zd v) 63)).cell? ⟨w.heap.size,0,none⟩=some (.int .u64 v.bal):=hE.cell 0;have x1:(w.alloc (.cells (Zd v) 63)).cell? ⟨w.heap.size,1,none⟩=some (.int .i64 v.st):=hE.cell 1;obtain ⟨-,-,c2,c3,c4⟩:=HB.out.cells;have f3:=HB.out.1.frozen 3;have f4:=HB.out.1.frozen 4;have v0:=hv.bal.1;have HE:=Za hE;have HK:=Za hK;have HW:=Za hv.2;obtain ⟨cs,Ff⟩ : ∃q,c v.st=q:=⟨_,rfl⟩;rw [Ff] at Od Ns ⊢;have yV:=Za Ff;obtain ⟨n0,Mm⟩ : ∃n,w.heap.size=n:=⟨_,rfl⟩;have nU: ¬n0=b:=by rw [←Mm]; exact Kt
 clear Kt;clear h hE hK hv hl Ff;refine Cv Tryz.func242 rfl ?_;simp only [Tryz.ntmps242,List.size_toArray,Yu,List.length_nil,Nat.reduceAdd,Nat.reduceSub,Array.replicate_succ,Array.replicate_zero,List.push_toArray,List.append_toArray,List.nil_append,Ym];go_wp2;generalize w.alloc (.cells (Zd v) 63)=W at*;rw [Mm] at*;refine Bj 9 ?_;simp only [qT,qD]
 repeat (go_big_quiet_step (fail))
 refine Zj ?_;intro _ Jw;obtain ⟨n1,Xl⟩:=Jw;subst Xl;go_wp2_with fail;refine (HL.out _).mono ?_;rintro e w2 ⟨rfl,rfl⟩;go_wp2_with fail;refine Bj 9 ?_;simp only [qT,qD]
 repeat (go_big_quiet_step (fail))
 refine Zj ?_;intro _ Jw;obtain ⟨n2,Xl⟩:=Jw;subst Xl;go_wp2_with fail;have HR:=Za ((((HB.out.drewN n1).total (T - v.bal)).drewN n2).active (A - v.bal));have Na:Hid (Kept (fun i=>i=b∨i=m) w ((((W.drewN n1).setCell ⟨b,4,none⟩ (.int .u64 (T - v.bal))).drewN n2).setCell ⟨b,3,none⟩ (.int .u64 (A - v.bal)))):=Za ((((HK.out.drewN n1).setCell (.inl (.inl rfl)) _).drewN n2).setCell (.inl (.inl rfl)) _);have y1:((((W.drewN n1).setCell ⟨b,4,none⟩ (.int .u64 (T - v.bal))).drewN n2).setCell ⟨b,3,none⟩ (.int .u64 (A - v.bal))).cell? ⟨n0,1,none⟩=some (.int .i64 v.st):=(Ju (Xz (Ju (Xz HE.out n1) nU _) n2) nU _).cell 1;generalize (((W.drewN n1).setCell ⟨b,4,none⟩ (.int .u64 (T - v.bal))).drewN n2).setCell ⟨b,3,none⟩ (.int .u64 (A - v.bal))=W2 at*;exact zT8
theorem aV (b m cap:Nat)(s:Zo)(c:Int→Int)(A T:Int)(v:Yd)(w:Zc)(h:RegB w b m s cap c A T)(hv:Yq v)(hl:Bm v.st=false)
  (CM:v.bal≤T) (hT:T≤18446744073709551615) (Od:1≤c v.st) (Ns:c v.st≤4096) :
  Di Zb 242 #[.pointer (some ⟨b,0,none⟩),.agg (Zd v)] w fun e w'=>e= .returned (.tuple #[])∧RegB w' b m s cap (OT c v.st (c v.st - 1)) A (T - v.bal)∧Kept (fun i=>i=b∨i=m) w w':=by
 have HL:Hid (∀w,Zi Zb 276 #[.int .i64 v.st] w fun e w'=>e= .returned (.bool false)∧w=w'):=Za (fun w=>by have:=Nz v.st w; rwa [hl] at this);have hK:Kept (fun i=>i=b∨i=m) w (w.alloc (.cells (Zd v) 63)):=(ZM _ w).alloc _;have hE:Zy (w.alloc (.cells (Zd v) 63)) w.heap.size 63 (Zd v):=Zw _ _ _;have Kt: ¬w.heap.size=b:=by have:=h.1.lt; omega
 have HB:=Za (h.alloc (.cells (Zd v) 63));have x0:(w.alloc (.cells (Zd v) 63)).cell? ⟨w.heap.size,0,none⟩=some (.int .u64 v.bal):=hE.cell 0;have x1:(w.alloc (.cells (Zd v) 63)).cell? ⟨w.heap.size,1,none⟩=some (.int .i64 v.st):=hE.cell 1;obtain ⟨-,-,c2,c3,c4⟩:=HB.out.cells;have f3:=HB.out.1.frozen 3;have f4:=HB.out.1.frozen 4;have v0:=hv.bal.1;have HE:=Za hE;have HK:=Za hK;have HW:=Za hv.2;obtain ⟨cs,Ff⟩ : ∃q,c v.st=q:=⟨_,rfl⟩;rw [Ff] at Od Ns ⊢;have yV:=Za Ff;obtain ⟨n0,Mm⟩ : ∃n,w.heap.size=n:=⟨_,rfl⟩;have nU: ¬n0=b:=by rw [←Mm]; exact Kt
 clear Kt;clear h hE hK hv hl Ff;refine Cv Tryz.func242 rfl ?_;simp only [Tryz.ntmps242,List.size_toArray,Yu,List.length_nil,Nat.reduceAdd,Nat.reduceSub,Array.replicate_succ,Array.replicate_zero,List.push_toArray,List.append_toArray,List.nil_append,Ym];go_wp2;generalize w.alloc (.cells (Zd v) 63)=W at*;rw [Mm] at*;refine Bj 9 ?_;simp only [qT,qD]
 repeat (go_big_quiet_step (fail))
 refine Zj ?_;intro _ Jw;obtain ⟨n1,Xl⟩:=Jw;subst Xl;go_wp2_with fail;refine (HL.out _).mono ?_;rintro e w2 ⟨rfl,rfl⟩;go_wp2_with fail;have HR:=Za ((HB.out.drewN n1).total (T - v.bal));have Na:Hid (Kept (fun i=>i=b∨i=m) w ((W.drewN n1).setCell ⟨b,4,none⟩ (.int .u64 (T - v.bal)))):=Za ((HK.out.drewN n1).setCell (.inl (.inl rfl)) _);have y1:((W.drewN n1).setCell ⟨b,4,none⟩ (.int .u64 (T - v.bal))).cell? ⟨n0,1,none⟩=some (.int .i64 v.st):=(Ju (Xz HE.out n1) nU _).cell 1;generalize (W.drewN n1).setCell ⟨b,4,none⟩ (.int .u64 (T - v.bal))=W2 at*;exact zT8
theorem aU (b m cap:Nat)(s:Zo)(c:Int→Int)(A T:Int)(v:Yd)(w:Zc)(h:RegB w b m s cap c A T)(hv:Yq v)
  (MD:liveBal v≤A) (hA:A≤T) (CM:v.bal≤T) (hT:T≤18446744073709551615) (Od:1≤c v.st) (Ns:c v.st≤4096) :
  Di Zb 242 #[.pointer (some ⟨b,0,none⟩),.agg (Zd v)] w fun e w'=>e= .returned (.tuple #[])∧RegB w' b m s cap (OT c v.st (c v.st - 1)) (A - liveBal v) (T - v.bal)∧Kept (fun i=>i=b∨i=m) w w':=by
 have v0:=hv.bal.1
 cases hl:Bm v.st with
 | true=>
  have e:liveBal v=v.bal:=by simp [liveBal,hl]
  rw [e] at MD ⊢;exact aW b m cap s c A T v w h hv hl MD Zp CM hT Od Ns
 | false=>
  have e:A - liveBal v=A:=by simp [liveBal,hl]
  rw [e];exact aV b m cap s c A T v w h hv hl CM hT Od Ns
end
section
open Go Go.RowKit Go.Deep
theorem sy:(Tryz.prog.info? 63).map (fun i=>(i.zero,i.size))=some (some (.agg (Zd Z9)),7):=by kernel_rfl
section
variable {P:YZ}
theorem MR (w:Zc)(T e:ZT)(i:TypeInfo)(z:Zo)(v:Yd)(ht:P.underlying T=some (.slice e))(hi:P.info? e=some i)(hz:i.zero=some z)(hs:i.size=7) :
  (Y1 T 1 #[(0,.agg (Zd v))]).run P w= .ok (.slice (some ⟨w.heap.size,0,none⟩) 1 1) (w.alloc (.cells (Zd v) e)):=by
 simp [Y1,run_underlying ht,sizeOf,typeInfo,hi,hs,zeroValue,hz,Instr.fill,newRow,Value.cells,Zd,Yd.row];simp [go_sem]
theorem N0 {o:Oper}{a:Act}{w:Zc}{K:Act→Zc→Prop}{Q:Exit→Act→Zc→Prop}(T e:ZT)(x:YI)(z:Zo)(v:Yd)(ho:o.op= .buildSlice T 1 #[(0,x)])(hx:a.eval x= .agg (Zd v))(ht:P.underlying T=some (.slice e))(hI:(P.info? e).map (fun i=>(i.zero,i.size))=some (some z,7))
  (h:K (a.put o.dst (.slice (some ⟨w.heap.size,0,none⟩) 1 1)) (w.alloc (.cells (Zd v) e))) :o.wp P a w K Q:=by
 obtain ⟨i,hi,hz,hs⟩:=Nx hI;unfold Oper.wp Xr;simp only [ho,List.map_toArray,List.map_cons,List.map_nil,hx,Yl,MR w T e i z v ht hi hz hs,ZW,YJ];exact h
end
theorem me (w:Zc)(v:Yd)(t:ZT) : ∀j u,v.row[j]?=some u→(w.alloc (.cells (Zd v) t)).cell? ((⟨w.heap.size,0,none⟩ :Addr).add j)=some u:=fun j u hu=>by
 rw [add_plain];have:=(Zw w t (Zd v)).range j u hu;exact this
theorem ID: ∃i,Tryz.prog.info? 63=some i∧i.zero=some (.agg (Zd Z9))∧i.size=7∧i.bytes=56:=by
 have h:(Tryz.prog.info? 63).map (fun i=>(i.zero,i.size,i.bytes))=some (some (.agg (Zd Z9)),7,56):=by kernel_rfl
 cases hi:Tryz.prog.info? 63 with
 | none=>rw [hi] at h; cases h
 | some i=>
  rw [hi] at h;simp at h;exact ⟨i,rfl,h.1,h.2.1,h.2.2⟩
end
section
open Go Go.RowKit Go.Deep
theorem kE (b cap cp:Nat)(a:Option Addr)(v:Yd)(w:Zc)(h0:w.cell? ⟨b,0,none⟩=some (.int .i64 cap))(h1:w.cell? ⟨b,1,none⟩=some (.slice a cap cp)) :
  Zi Zb 181 #[.pointer (some ⟨b,0,none⟩),.agg (Zd v)] w fun e w'=>e= .returned (.tuple #[.int .i64 (-1),.int .i64 5])∧Zt w.heap.size w w':=by
 have x0:=ZK (.cells (Zd v) 63) h0;have x1:=ZK (.cells (Zd v) 63) h1;clear h0 h1;go_enter_defers Tryz.func181,Tryz.ntmps181;go_wp2;exact ⟨_,results_tmp2 rfl _ _ _,rfl,(Zr _ _).alloc (Zg _) _⟩
theorem kF (b cap cp n:Nat)(a:Option Addr)(T:Int)(v:Yd)(w:Zc)(h0:w.cell? ⟨b,0,none⟩=some (.int .i64 cap))(h1:w.cell? ⟨b,1,none⟩=some (.slice a n cp))(h4:w.cell? ⟨b,4,none⟩=some (.int .u64 T))
  (hn:n < cap) (hc:cap≤4096) (hv:Yq v) (CM:0≤T) (zy:T≤18446744073709551615) (hT:18446744073709551615 < T+v.bal) :
  Zi Zb 181 #[.pointer (some ⟨b,0,none⟩),.agg (Zd v)] w fun e w'=>e= .returned (.tuple #[.int .i64 (-1),.int .i64 10])∧Zt w.heap.size w w':=by
 have x0:=ZK (.cells (Zd v) 63) h0;have x1:=ZK (.cells (Zd v) 63) h1;have x4:=ZK (.cells (Zd v) 63) h4;have hB:Zt w.heap.size w (w.alloc (.cells (Zd v) 63)):=(Zr _ _).alloc (Zg _) _;have y0:(w.alloc (.cells (Zd v) 63)).cell? ⟨w.heap.size,0,none⟩=some (.int .u64 v.bal):=(Zw w 63 (Zd v)).cell 0;obtain ⟨v0,v1⟩:=hv.bal;have hnc:((n:Int)==(cap:Int))=false:=by simp; omega
 have X4:=Za x4;have Y0:=Za y0;have HB:=Za hB;clear h0 h1 h4 x4 y0 hB hv;go_enter_defers Tryz.func181,Tryz.ntmps181;go_wp2;generalize w.alloc (.cells (Zd v) 63)=W at*;refine MZ (fun _=>True) 12 12 [] trivial ?_;refine Zj ?_;refine KX (fun w'=>w'.cell? ⟨b,4,none⟩=some (.int .u64 T)∧w'.cell? ⟨w.heap.size,0,none⟩=some (.int .u64 v.bal)) (m:=12) (f:=6) [0,1,2,3,4,5] (fun _ _=>trivial) Yi ⟨X4.out,Y0.out⟩ ?_;simp only [qF,qH];show ZB _ _ _ _ [_,_,_,_,_,_] _;iterate 3 (go_big_quiet_step ((intros; rfl)))
 refine Yw 22 _ _ (.int .u64 T) rfl rfl rfl (fun w h=>by simp [go_sem,h]) (fun w h=>h.1) ?_;simp only [qB];iterate 1 (go_big_quiet_step ((intros; rfl)))
 refine Yw 22 _ _ (.int .u64 v.bal) rfl rfl rfl (fun w h=>by simp [go_sem,h]) (fun w h=>h.2) ?_;simp only [qB];refine Zj ?_;refine Qt (i:=6) ?_;refine YE rfl rfl (QN 143 22 (.tmp 26) (.tmp 28) _ _ (.int .u64 T) (.int .u64 v.bal) rfl rfl rfl QX DK rfl rfl rfl ⟨⟨ZK _ X4.out,ZK _ Y0.out⟩,?_⟩);refine Qt (i:=7) ?_;simp only [YL,qG,qS];refine JM #[.slice (some ⟨W.drew.heap.size,0,none⟩) 2 2] GQ ((RK W.drew.heap.size T v.bal _ (Zw W.drew _ _) CM zy v0 v1 Zp).mono ?_);rintro e w2 ⟨rfl,MG⟩;have B2:Zt w.heap.size w w2:=MG▸HB.out.drew.alloc HB.out.size _;have S2:w2.cell? ⟨b,4,none⟩=some (.int .u64 T)∧w2.cell? ⟨w.heap.size,0,none⟩=some (.int .u64 v.bal):=by exact ZaO
 refine ⟨_,rfl,S2,?_⟩;clear MG;simp only [YL,qG,qS];refine Wv (fun w'=>w'.cell? ⟨b,4,none⟩=some (.int .u64 T)∧w'.cell? ⟨w.heap.size,0,none⟩=some (.int .u64 v.bal)) (m:=4) (f:=0) [8,9,10,11] S2 ?_;simp only [qF,qH];show ZB _ _ _ _ [_,_,_,_] _;iterate 4 (go_big_quiet_step ((intros; rfl)))
 refine Zj ?_;show YH _ _ _ _ _=true∧_;refine ⟨by kernel_rfl,?_⟩;simp only [qA];go_wp2;refine ZH ?_;go_wp2;exact ⟨_,results_tmp2 rfl _ _ _,rfl,B2⟩
theorem uU (b cap m:Nat)(s:Zo)(l:List Yd)(v:Yd)(w:Zc)(h:RegB w b m s cap (Xk l) (ZY l) (ZA l))(ho:w.ownsRow 0 63 7 s l.length (XC l))
  (hn:l.length < cap) (hc:cap≤4096) (hf: ∀x ∈ l,Yq x) (hv:Yq v) (hT:ZA l+v.bal≤18446744073709551615) :
  Zi Zb 181 #[.pointer (some ⟨b,0,none⟩),.agg (Zd v)] w fun e w'=>e= .returned (.tuple #[.int .i64 l.length,.int .i64 0])∧ ∃s',RegB w' b m s' cap (Xk (l++[v])) (ZY (l++[v])) (ZA (l++[v]))∧w'.ownsRow 0 63 7 s' (l.length+1) (XC (l++[v]))∧
   (s'.ownBlock=s.ownBlock∨ ∃q,s'.ownBlock=some q∧w.heap.size≤q)∧Kept (fun i=>i=b∨i=m∨s.ownBlock=some i) w w':=by
 obtain ⟨a,cp,rfl,qa,qc⟩:=Ut ho;obtain ⟨MD,hA⟩:=active_le hf;have CM:=total_nonneg hf;have hcb:=count_bounds l v.st;obtain ⟨v0,v1⟩:=hv.bal;have HB:=Za (h.alloc (.cells (Zd v) 63));have HO:=Za (ho.alloc (.cells (Zd v) 63));have uG:Hid (∀i,(Yr a l.length cp).ownBlock=some i→i < w.heap.size):=Za (fun i hi=>(ho.lt i hi).2);have Mf:=h.1.lt;have lS:=h.2.lt;have IW:Hid ((Yr a l.length cp).ownBlock≠some b∧(Yr a l.length cp).ownBlock≠some m):=Za (by
  rcases ho.2 with ⟨h1,_⟩ | ⟨g,Bp,cur,h1,_,h3,_⟩
  ·rw [h1]; simp [Xq]
  ·rw [h1];simp only [Xq,ne_eq,Option.some.injEq];refine ⟨?_,?_⟩
   ·rintro rfl; exact ZgW
   ·rintro rfl; obtain ⟨es,clock,h9,_⟩:=h.2; rw [h3] at h9; cases h9)
 have HE:Hid (Zy (w.alloc (.cells (Zd v) 63)) w.heap.size 63 (Zd v)):=Za (Zw _ _ _);have HK:Hid (Kept (fun i=>i=b∨i=m∨(Yr a l.length cp).ownBlock=some i) w (w.alloc (.cells (Zd v) 63))):=Za ((ZM _ w).alloc _);obtain ⟨x0,x1,x2,x3,x4⟩:=HB.out.cells;have X1:=Za x1;have X4:=Za x4;have Y0:=Za (HE.out.cell 0);have hnc:((l.length:Int)==(cap:Int))=false:=by simp; omega
 have HV:=Za hv;have PQ:w.heap.size≤(w.alloc (.cells (Zd v) 63)).heap.size:=by simp
 obtain ⟨n0,Mm⟩ : ∃n,w.heap.size=n:=⟨_,rfl⟩;rw [Mm] at Mf lS PQ uG HE Y0;clear h ho x2 x3 x4 hf hv;go_enter_defers Tryz.func181,Tryz.ntmps181;go_wp2;generalize w.alloc (.cells (Zd v) 63)=W at*;have hWn:n0 < W.heap.size:=HE.out.lt;obtain ⟨T,hTe⟩ : ∃T,ZA l=T:=⟨_,rfl⟩;rw [hTe] at X4 hT CM hA;refine MZ (fun _=>True) 12 12 [] trivial ?_;refine Zj ?_;refine KX (fun w'=>w'.cell? ⟨b,4,none⟩=some (.int .u64 T)∧w'.cell? ⟨n0,0,none⟩=some (.int .u64 v.bal)) (m:=12) (f:=6) [0,1,2,3,4,5] (fun _ _=>trivial) Yi ⟨X4.out,Y0.out⟩ ?_;simp only [qF,qH];show ZB _ _ _ _ [_,_,_,_,_,_] _;iterate 3 (go_big_quiet_step ((intros; rfl)))
 refine Yw 22 _ _ (.int .u64 T) rfl rfl rfl (fun w h=>by simp [go_sem,h]) (fun w h=>h.1) ?_;simp only [qB];iterate 1 (go_big_quiet_step ((intros; rfl)))
 refine Yw 22 _ _ (.int .u64 v.bal) rfl rfl rfl (fun w h=>by simp [go_sem,h]) (fun w h=>h.2) ?_;simp only [qB];refine Zj ?_;refine Qt (i:=6) ?_;refine YE rfl rfl (QN 143 22 (.tmp 26) (.tmp 28) _ _ (.int .u64 T) (.int .u64 v.bal) rfl rfl rfl QX DK rfl rfl rfl ⟨⟨ZK _ X4.out,ZK _ Y0.out⟩,?_⟩);refine Qt (i:=7) ?_;simp only [YL,qG,qS];refine JM #[.slice (some ⟨W.drew.heap.size,0,none⟩) 2 2] GQ ((RL W.drew.heap.size T v.bal _ (Zw W.drew _ _) CM v0 hT).mono ?_);rintro e w2 ⟨rfl,MG⟩;have S2:w2.cell? ⟨b,4,none⟩=some (.int .u64 T)∧w2.cell? ⟨n0,0,none⟩=some (.int .u64 v.bal):=by exact ZaO
 refine ⟨_,rfl,S2,?_⟩;have H2:Hid (RegB w2 b m (.slice a l.length cp) cap (Xk l) (ZY l) T∧w2.ownsRow 0 63 7 (.slice a l.length cp) l.length (XC l)∧Zy w2 n0 63 (Zd v)∧Kept (fun i=>i=b∨i=m∨(Yr a l.length cp).ownBlock=some i) w w2∧W.heap.size≤w2.heap.size):=
  Za (MG▸⟨by rw [←hTe]; exact (HB.out.drewN 1).alloc _,QG (w:=W.drew) HO.out _,YF (J3 HE.out) _,(HK.out.drew).alloc _,by simp⟩)
 clear MG HB HO HE HK X1 X4 Y0 x0 x1;simp only [YL,qG,qS];refine Wv (fun w'=>w'.cell? ⟨b,4,none⟩=some (.int .u64 T)∧w'.cell? ⟨n0,0,none⟩=some (.int .u64 v.bal)) (m:=4) (f:=0) [8,9,10,11] S2 ?_;simp only [qF,qH];show ZB _ _ _ _ [_,_,_,_] _;iterate 4 (go_big_quiet_step ((intros; rfl)))
 refine Zj ?_;show YH _ _ _ _ _=true∧_;refine ⟨by kernel_rfl,?_⟩;simp only [qA];go_wp2;refine ZH ?_;go_wp2_with (refine XZ rfl 63 _ rfl n0 0 rfl v _ H2.out.2.2.1.range Zs rfl Yo ?_);have S3:=H2.out.1.cells.2.1;have S4:=H2.out.2.2.1.range;have hle:w2.heap.size≤w2.drew.heap.size:=Zg _;refine MZ (fun _=>True) 10 10 [] trivial ?_;refine Zj ?_;refine KX (fun w'=>w'.cell? ⟨b,1,none⟩=some (.slice a l.length cp)∧w'.rangeAt n0 0 v.row) (m:=10) (f:=4) [0,1,2,3,4,5] (fun _ _=>trivial) Yi ⟨S3,S4⟩ ?_;simp only [qF,qH];show ZB _ _ _ _ [_,_,_,_,_,_] _;iterate 4 (go_big_quiet_step ((intros; rfl)))
 refine Yw 46 _ _ (.slice a l.length cp) rfl rfl rfl (fun w h=>by simp [go_sem,h]) (fun w h=>h.1) ?_;simp only [qB];refine JG 63 (.tmp 3) n0 0 v _ rfl rfl rfl (fun w h=>h.2) Zs rfl Yo ?_;simp only [qB];refine Zj ?_;refine Qt (i:=6) ?_;refine YE rfl rfl (N0 46 63 (.tmp 42) _ v rfl rfl Ud sy ⟨⟨ZK _ S3,fun j u hu=>ZK _ (S4 j u hu)⟩,?_⟩);refine Qt (i:=7) ?_;simp only [YL,qG,qS];obtain ⟨i,hi,hz,wC,Hu⟩:=ID;refine YE rfl rfl (Ey _ (.tmp 41) (.tmp 43) 46 rfl 0 63 i _ 7 56 Ud hi hz wC Hu (O9 _) Zp (.slice a l.length cp) l.length (XC l) rfl (QG (w:=w2.drew) H2.out.2.1 _)
  (some ⟨w2.drew.heap.size,0,none⟩) 1 1 v.row rfl rfl (fun _=>⟨_,rfl,me _ _ _⟩) (row_one v) US Zp Zp ?_)
 intro s' w3 ho3 hg3 hs3;obtain ⟨a',Bp,rfl,-,-⟩:=Ut ho3;have H3:Hid (RegB w3 b m (.slice a l.length cp) cap (Xk l) (ZY l) T∧w3.ownsRow 0 63 7 (.slice a' (l.length+1) Bp) (l.length+1) (XC (l++[v]))∧Kept (fun i=>i=b∨i=m∨(Yr a l.length cp).ownBlock=some i) w w3∧((Yr a' (l.length+1) Bp).ownBlock=(Yr a l.length cp).ownBlock∨ ∃q,(Yr a' (l.length+1) Bp).ownBlock=some q∧n0≤q)∧(Yr a' (l.length+1) Bp).ownBlock≠some b∧(Yr a' (l.length+1) Bp).ownBlock≠some m):=by
  have e1:RegB (w2.drew.alloc (.cells (Zd v) 63)) b m (.slice a l.length cp) cap (Xk l) (ZY l) T:=(H2.out.1.drewN 1).alloc _;have k1:Kept (fun i=>i=b∨i=m∨(Yr a l.length cp).ownBlock=some i) w (w2.drew.alloc (.cells (Zd v) 63)):=(H2.out.2.2.2.1.drew).alloc _;have Du:n0≤(w2.drew.alloc (.cells (Zd v) 63)).heap.size:=by have:=H2.out.2.2.2.2; simp; omega
  have Zca:(Yr a' (l.length+1) Bp).ownBlock=(Yr a l.length cp).ownBlock∨ ∃q,(Yr a' (l.length+1) Bp).ownBlock=some q∧n0≤q:=hs3.imp id (fun h=>⟨_,h,Du⟩);refine Za ⟨⟨e1.1.grown hg3 (QA IW.out.1),e1.2.grown hg3 (QA IW.out.2)⟩,by rw [Hp,pH]; exact ho3,k1.trans (Kept.of_grown (S:=fun i=>some i=(Yr a l.length cp).ownBlock) hg3 (fun i hi=>hi)) (fun i _ e=> .inr (.inr e.symm)),Zca,?_,?_⟩
  ·rcases Zca with h | ⟨q,h,hq⟩<;> rw [h]
   ·exact IW.out.1
   ·intro e; injection e; omega
  ·rcases Zca with h | ⟨q,h,hq⟩<;> rw [h]
   ·exact IW.out.2
   ·intro e; injection e; omega
 have S5:=H3.out.1.cells.2.1;have S6:w3.rangeAt n0 0 v.row:=fun j u hu=>hg3.cell (ZK _ (S4 j u hu)) (by intro e; have:=uG.out n0 e.symm; omega)
 refine ⟨⟨S5,S6⟩,?_⟩;clear ho3 hg3 hs3;simp only [YL,qG,qS];refine Wv (fun w'=>w'.cell? ⟨b,1,none⟩=some (.slice a l.length cp)∧w'.rangeAt n0 0 v.row) (m:=2) (f:=0) [8,9] ⟨S5,S6⟩ ?_;simp only [qF,qH];show ZB _ _ _ _ [_,_] _;iterate 2 (go_big_quiet_step ((intros; rfl)))
 refine Zj ?_;show YH _ _ _ _ _=true∧_;refine ⟨by kernel_rfl,?_⟩;simp only [qA];have Z1:=H3.out.1.1.frozen 1;have HI:=Za (Pj b m cap (.slice a' (l.length+1) Bp) (Xk l) (ZY l) T v (w3.setCell ⟨b,1,none⟩ (.slice a' (l.length+1) Bp)) (H3.out.1.list _) HV.out MD hA hT hcb.1 Zp);clear S2 S3 S4 S6 H2 hi hz wC Hu;go_wp2;refine ZH ?_;go_wp2;refine leaves_cons (f:=236) (args:= #[.pointer (some ⟨b,0,none⟩),.agg (Zd v)]) ZO (by simp [go_sem]) ?_;refine (HI.out.2 _).mono ?_;rintro e u' w4 ⟨rfl,rfl,hr4,zJ⟩;refine ⟨_,results_tmp2 rfl _ _ _,rfl,.slice a' (l.length+1) Bp,?_,?_,?_,?_⟩
 ·have e1:ZY (l++[v])=ZY l+liveBal v:=by rw [Gf]; simp [ZY]
  have e2:ZA (l++[v])=T+v.bal:=by rw [UP,hTe]; simp [ZA]
  rw [e1,e2];refine ⟨hr4.1,hr4.2.congr (fun q=>?_)⟩;rw [BY];simp only [OT,Xk]
  by_cases hq:q=v.st
  ·subst hq; simp
  ·rw [if_neg hq,if_neg (fun e=>hq e.symm)]; omega
 ·refine KJ H3.out.2.1 (fun i hi=>?_);have h1:i≠b:=by rintro rfl; exact H3.out.2.2.2.2.1 hi
  have h2:i≠m:=by rintro rfl; exact H3.out.2.2.2.2.2 hi
  have h3:=(H3.out.2.1.lt i hi).2;rw [zJ.block i (by simpa [World.setCell] using h3) (by rintro (h | h); exact h1 h; exact h2 h)];exact Below.heap_setCell _ _ _ _ h1
 ·rw [Mm];exact H3.out.2.2.2.1
 ·exact (H3.out.2.2.1.setCell (.inl (.inl rfl)) _).trans zJ (fun i _ hi=>hi.elim .inl (fun h=> .inr (.inl h)))
theorem oy (b cap:Nat)(S:Nat→Prop)(l:List Yd)(v:Yd)(w:Zc)(h:Fe w b S cap l)(hv:Yq v) :
  Zi Zb 181 #[.pointer (some ⟨b,0,none⟩),.agg (Zd v)] w fun e w'=>
   (l.length=cap∧e= .returned (.tuple #[.int .i64 (-1),.int .i64 5])∧Zt w.heap.size w w')∨
   (l.length < cap∧18446744073709551615 < ZA l+v.bal∧e= .returned (.tuple #[.int .i64 (-1),.int .i64 10])∧Zt w.heap.size w w')∨
   (l.length < cap∧ZA l+v.bal≤18446744073709551615∧e= .returned (.tuple #[.int .i64 l.length,.int .i64 0])∧ ∃S',Fe w' b S' cap (l++[v])∧(∀i,S' i→S i∨w.heap.size≤i)∧Kept S w w'):=by
 obtain ⟨m,s,h1,h2,h3,h4,h5,h6,h7,hS⟩:=h;obtain ⟨a,cp,rfl,_,_⟩:=Ut h2;obtain ⟨x0,x1,x2,x3,x4⟩:=h1.cells
 by_cases hc:l.length=cap
 ·rw [hc] at x1;exact (kE b cap cp a v w x0 x1).mono fun e w' ⟨he,hb⟩=> .inl ⟨hc,he,hb⟩
 ·by_cases ht:ZA l+v.bal≤18446744073709551615
  ·refine (uU b cap m _ l v w h1 h2 Zp h4 h7 hv ht).mono fun e w' ⟨he,s',r1,r2,r3,r4⟩=> .inr (.inr ⟨by omega,ht,he,fun i=>i=b∨i=m∨s'.ownBlock=some i,⟨m,s',r1,by simpa using r2,h3,h4,by simp; omega,?_,?_,fun i=>Iff.rfl⟩,?_,?_⟩)
   ·rw [UP]; simp [ZA]; omega
   ·intro x hx
    rcases List.mem_append.1 hx with hx | hx
    ·exact h7 x hx
    ·obtain rfl:=List.mem_singleton.1 hx;exact hv
   ·rintro i (rfl | rfl | hi)
    ·exact .inl ((hS _).2 (.inl rfl))
    ·exact .inl ((hS _).2 (.inr (.inl rfl)))
    ·rcases r3 with r3 | ⟨q,r3,hq⟩
     ·exact .inl ((hS i).2 (.inr (.inr (by rw [←r3]; exact hi))))
     ·rw [r3] at hi;injection hi with hi;exact .inr Zp
   ·exact r4.more (fun i _ hi=>(hS i).2 hi)
  ·exact (kF b cap cp l.length a (ZA l) v w x0 x1 x4 Zp h4 hv (total_nonneg h7) h6 Zp).mono fun e w' ⟨he,hb⟩=> .inr (.inl ⟨by omega,by omega,he,hb⟩)
end
section
open Go Go.RowKit Go.Deep
section
variable {w a:Zc} {g t:Nat} {S:Nat→Prop}
theorem UG: ∀(vs X Y Z:List Zo) (w:Zc),Y.length=vs.length→Zy w g t (X++Y++Z).toArray→Zy (w.setCells g X.length vs) g t (X++vs++Z).toArray
 | [],X,Y,Z,w,hl,h=>by
  obtain rfl:=Z3 hl;exact h
 | v::vs,X,[],Z,w,hl,h=>by simp at hl
 | v::vs,X,y::Y,Z,w,hl,h=>by
  have h1:=h.set_ X.length v;have e:((X++(y::Y)++Z).toArray).setIfInBounds X.length v=((X++[v])++Y++Z).toArray:=by
   simp [List.set_append]
  rw [e] at h1;have:=UG vs (X++[v]) Y Z _ RD h1;simpa [World.setCells] using this
theorem Kept.setCells (vs:List Zo) : ∀(o:Nat) (w:Zc),Kept S a w→S g∨a.heap.size≤g→Kept S a (w.setCells g o vs):=by
 induction vs with
 | nil=>exact fun o w h _=>h
 | cons v vs ih=>exact fun o w h hg=>ih (o+1) _ (h.setCell hg v) hg
theorem NG {l:List Yd}{i cp:Nat}{Qi:Yd}(h:w.ownsRow 0 63 7 (.slice (some ⟨g,0,none⟩) l.length cp) l.length (XC l))(hi:l[i]?=some Qi)(v:Yd) :
  (w.setCells g (i*7) v.row).ownsRow 0 63 7 (.slice (some ⟨g,0,none⟩) l.length cp) l.length (XC (l.set i v))∧w.there g (i*7) 7:=by
 have EB:=(Zh.1 hi).1
 rcases h.2 with ⟨h1,_⟩ | ⟨g',Bp,cur,h1,h2,h3,h4,h5,h6,h7⟩
 ·cases h1
 ·injection h1 with h1 _ qa;injection h1 with h1;injection h1 with h1;subst h1 qa;have el:l=l.take i++Qi::l.drop (i+1):=by
   have he:=(Zh.1 hi).2;rw [←he,List.getElem_cons_drop,XF]
  have es:l.set i v=l.take i++v::l.drop (i+1):=by rw [GV,if_pos EB]
  have hX:(XC (l.take i)).length=i*7:=by rw [Hr,List.length_take]; congr 1; omega
  have e1:XC l=XC (l.take i)++Qi.row++XC (l.drop (i+1)):=by
   conv=>lhs; rw [el]
   rw [Hp];simp [XC]
  have e2:XC (l.set i v)=XC (l.take i)++v.row++XC (l.drop (i+1)):=by
   rw [es,Hp];simp [XC]
  have e3:cur=(XC (l.take i)++Qi.row++(XC (l.drop (i+1))++cur.toList.drop (l.length*7))).toArray:=by
   rw [←XK,←e1,←h7,XF]
  have hb:Zy w g 63 (XC (l.take i)++Qi.row++(XC (l.drop (i+1))++cur.toList.drop (l.length*7))).toArray:=by rw [←e3]; exact h3
  have Gk:=UG v.row (XC (l.take i)) Qi.row _ w rfl hb;rw [hX] at Gk;have Du:((XC (l.take i)++v.row++(XC (l.drop (i+1))++cur.toList.drop (l.length*7))).toArray).size=cur.size:=by
   conv=>rhs; rw [e3]
   simp [NO]
  refine ⟨⟨by rw [Hr,Xw],.inr ⟨g,cp,_,rfl,h2,Gk,h4,h5,Du.trans h6,?_⟩⟩,fun j hj=>⟨?_,hb.frozen _⟩⟩
  ·rw [←XK,←e2,List.toList_toArray,List.take_left' (by rw [Hr,Xw])]
  ·have hc:i*7+j < cur.size:=by
    rw [h6];have:l.length≤cp:=h4;have:(i+1)*7≤l.length*7:=X3 7 EB;have:l.length*7≤cp*7:=X3 7 h4;omega
   have hb':Zy w g 63 cur:=h3;rw [hb'.cell,Array.getElem?_eq_getElem hc];rfl
end
theorem aE (b m cap pR pO pV:Nat)(s:Zo)(c:Int→Int)(A T:Int)(Qi v:Yd)(w:Zc)(h:RegB w b m s cap c A T)(hR:Zy w pR 88 #[.pointer (some ⟨b,0,none⟩)])(hO:Zy w pO 63 (Zd Qi))(hV:Zy w pV 63 (Zd v))
  (ho:Yq Qi) (hv:Yq v) (MD:liveBal Qi≤A) (hA:A≤T) (zu:A - liveBal Qi≤T - Qi.bal) (CM:Qi.bal≤T) (zy:T≤18446744073709551615) (hT:T - Qi.bal+v.bal≤18446744073709551615) (Od:1≤c Qi.st) (Ns:c Qi.st≤4096) (hc2:0≤c v.st) (lN:c v.st≤4096) :
  Di Zb 241 #[.pointer (some ⟨pR,0,none⟩),.pointer (some ⟨pO,0,none⟩),.pointer (some ⟨pV,0,none⟩)] w fun e w'=>e= .returned (.tuple #[])∧
   RegB w' b m s cap (OT (OT c Qi.st (c Qi.st - 1)) v.st (OT c Qi.st (c Qi.st - 1) v.st+1)) (A - liveBal Qi+liveBal v) (T - Qi.bal+v.bal)∧Kept (fun i=>i=b∨i=m) w w':=by
 have Kt: ∀p t cs,Zy w p t cs→t≠187→ ¬(p=b∨p=m):=fun p t cs hp ht=>by
  rintro (rfl | rfl)
  ·exact Zy.ne_ hp h.1 ht rfl
  ·obtain ⟨es,clock,h9,_⟩:=h.2;unfold Zy at hp;rw [hp] at h9; cases h9
 have nR:=Kt pR _ _ hR DO;have nO:=Kt pO _ _ hO DO;have nV:=Kt pV _ _ hV DO;have cR:w.cell? ⟨pR,0,none⟩=some (.pointer (some ⟨b,0,none⟩)):=hR.cell 0;have HX:=Za (aU b m cap s c A T Qi w h ho MD hA CM zy Od Ns);have HRb:=Za hR;have HOb:=Za hO;have HVb:=Za hV;have HV:=Za hv;have l0:=SQ hv.bal.1;have hq:0≤OT c Qi.st (c Qi.st - 1) v.st∧OT c Qi.st (c Qi.st - 1) v.st≤4096:=by
  unfold OT
  split <;> omega
 clear h hR hO hV ho hv Kt;refine Cv Tryz.func241 rfl ?_;simp only [Tryz.ntmps241,List.size_toArray,Yu,List.length_nil,Nat.reduceAdd,Nat.reduceSub,Array.replicate_succ,Array.replicate_zero,List.push_toArray,List.append_toArray,List.nil_append,Ym];go_wp2_with (refine XZ rfl 63 _ rfl pO 0 rfl Qi _ HOb.out.range Zs rfl Yo ?_);refine HX.out.1.mono ?_;rintro e w1 ⟨rfl,qx,Rd⟩;have uK:=Za qx;have LZ:=Za Rd;have HV1:=Za (HVb.out.kept Rd nV);have cR1:w1.cell? ⟨pR,0,none⟩=some (.pointer (some ⟨b,0,none⟩)):=(HRb.out.kept Rd nR).cell 0;have HI:=Za (Pj b m cap s _ _ _ v w1 qx HV.out Zp zu hT hq.1 hq.2);clear qx Rd cR HX HVb HOb HRb;go_wp2_with (refine XZ rfl 63 _ rfl pV 0 rfl v _ HV1.out.range Zs rfl Yo ?_);refine HI.out.1.mono ?_;rintro e w2 ⟨rfl,MF,lQ⟩;have HZ:=Za (And.intro MF (LZ.out.trans lQ (fun _ _ h=>h)));clear MF lQ;go_wp2;go_end0;exact ⟨rfl,HZ.out⟩
end
section
open Go Go.RowKit Go.Deep
theorem Su {a:Act}{dst:Option Tmp}{yt ty:ZT}{x y:YI}{pos:String}{after:Array Edge}{guard:Option (Nat × Bool)}{w:Zc}{p q:Yd}{r:Bool}(hx:a.eval x= .agg (Zd p))(hy:a.eval y= .agg (Zd q))(hr:decide (p=q)=r) :
  (Xr a.eval { dst,op:= .binOp .eql 63 x y yt,type:=ty,pos,after,guard}).run Zb w= .ok (.value (.bool r)) w:=by
 simp only [Xr,hx,hy,Yl,KK w .eql _ x y _ _ Tryz.eqGuardType63,ZW,run_eql_struct,pw p q w,YJ,hr]
theorem pA {a:Act}{dst:Option Tmp}{yt ty:ZT}{x y:YI}{pos:String}{after:Array Edge}{guard:Option (Nat × Bool)}{w:Zc}{p q:Yd}{r:Bool}(hx:a.eval x= .agg (Zd p))(hy:a.eval y= .agg (Zd q))(hr:(!decide (p=q))=r) :
  (Xr a.eval { dst,op:= .binOp .neq 63 x y yt,type:=ty,pos,after,guard}).run Zb w= .ok (.value (.bool r)) w:=by
 simp only [Xr,hx,hy,Yl,KK w .neq _ x y _ _ Tryz.eqGuardType63,ZW,run_neq_struct,pw p q w,YJ,hr]
theorem gI (b n cp:Nat)(a:Option Addr)(i:Int)(v:Yd)(w:Zc)(h1:w.cell? ⟨b,1,none⟩=some (.slice a n cp))(ho:i < 0∨n≤i) :
  Zi Zb 187 #[.pointer (some ⟨b,0,none⟩),.int .i64 i,.agg (Zd v)] w fun e w'=>e= .returned (.int .i64 7)∧Zt w.heap.size w w':=by
 have HB:Hid (Zt w.heap.size w ((w.alloc (.cells #[.pointer (some ⟨b,0,none⟩)] 88)).alloc (.cells (Zd v) 63))):=Za (((Zr _ _).alloc (Zg _) _).alloc ZO _);have H:=Za (jf b n cp a i ((w.alloc (.cells #[.pointer (some ⟨b,0,none⟩)] 88)).alloc (.cells (Zd v) 63)) (ZK _ (ZK _ h1)) ho);clear h1 ho;go_enter_defers Tryz.func187,Tryz.ntmps187;go_wp2_with fail;refine H.out.mono ?_;rintro e w1 ⟨rfl,rfl⟩;go_wp2;exact ⟨_,results_tmp rfl _ _ _,rfl,HB.out⟩
theorem ON (b cap m n cp g i:Nat)(l:List Yd)(Qi v:Yd)(w:Zc)(h:RegB w b m (.slice (some ⟨g,0,none⟩) l.length cp) cap (Xk l) (ZY l) (ZA l))(ho:w.ownsRow 0 63 7 (.slice (some ⟨g,0,none⟩) l.length cp) l.length (XC l))(hi:l[i]?=some Qi) :i < l.length∧w.rangeAt g (i*7) Qi.row∧g≠b∧g≠m:=by
 refine ⟨(Zh.1 hi).1,?_,?_,?_⟩
 ·have:=Mt (w:=w) (b:=g) (off:=0) (l:=l) (fun j u hu=>by
   have:=ho.cells rfl j u hu;rwa [add_plain] at this) hi
  rwa [Nat.zero_add] at this
 ·rintro rfl
  rcases ho.2 with ⟨h1,_⟩ | ⟨g',Bp,cur,h1,_,h3,_⟩
  ·cases h1
  ·injection h1 with h1 _ _; injection h1 with h1; injection h1 with h1; subst h1;exact ZgW
 ·rintro rfl
  rcases ho.2 with ⟨h1,_⟩ | ⟨g',Bp,cur,h1,_,h3,_⟩
  ·cases h1
  ·injection h1 with h1 _ _; injection h1 with h1; injection h1 with h1; subst h1;obtain ⟨es,clock,h9,_⟩:=h.2; rw [h3] at h9; cases h9
theorem mX (b cap m cp g i:Nat)(l:List Yd)(v:Yd)(w:Zc)(h:RegB w b m (.slice (some ⟨g,0,none⟩) l.length cp) cap (Xk l) (ZY l) (ZA l))(ho:w.ownsRow 0 63 7 (.slice (some ⟨g,0,none⟩) l.length cp) l.length (XC l))(hi:l[i]?=some v) :
  Zi Zb 187 #[.pointer (some ⟨b,0,none⟩),.int .i64 i,.agg (Zd v)] w fun e w'=>e= .returned (.int .i64 0)∧Zt w.heap.size w w':=by
 obtain ⟨EB,hr,-,-⟩:=ON b cap m l.length cp g i l v v w h ho hi;have HB:Hid (Zt w.heap.size w ((w.alloc (.cells #[.pointer (some ⟨b,0,none⟩)] 88)).alloc (.cells (Zd v) 63))):=Za (((Zr _ _).alloc (Zg _) _).alloc ZO _);have x1:=ZK (.cells (Zd v) 63) (ZK (.cells #[.pointer (some ⟨b,0,none⟩)] 88) h.cells.2.1);have HR:Hid (((w.alloc (.cells #[.pointer (some ⟨b,0,none⟩)] 88)).alloc (.cells (Zd v) 63)).rangeAt g (i*7) v.row):=Za (fun j u hu=>ZK _ (ZK _ (hr j u hu)));have H:=Za (CN b l.length cp i _ ((w.alloc (.cells #[.pointer (some ⟨b,0,none⟩)] 88)).alloc (.cells (Zd v) 63)) x1 EB);have HE:Hid (Zy ((w.alloc (.cells #[.pointer (some ⟨b,0,none⟩)] 88)).alloc (.cells (Zd v) 63)) (w.heap.size+1) 63 (Zd v)):=Za IJ;have cR:((w.alloc (.cells #[.pointer (some ⟨b,0,none⟩)] 88)).alloc (.cells (Zd v) 63)).cell? ⟨w.heap.size,0,none⟩=some (.pointer (some ⟨b,0,none⟩)):=ZK _ ((Zw w _ _).cell 0);have hi1: ¬(i:Int)< 0:=by omega
 have Uq: ¬(l.length:Int)≤(i:Int):=by omega
 have hi3:(i:Int)< (l.length:Int):=by omega
 clear h ho hi hr;go_enter_defers Tryz.func187,Tryz.ntmps187;go_wp2_with fail;generalize (w.alloc (.cells #[.pointer (some ⟨b,0,none⟩)] 88)).alloc (.cells (Zd v) 63)=W at*;refine H.out.mono ?_;rintro e w1 ⟨rfl,rfl⟩;have Hd:Hid (Zy (W.alloc (.cells (Zd v) 63)) (w.heap.size+1) 63 (Zd v)):=Za (HE.out.alloc _);have oq:Hid (Zy (W.alloc (.cells (Zd v) 63)) W.heap.size 63 (Zd v)):=Za (Zw _ _ _);go_wp2_with (first | (refine Ec (.bool true) rfl (Su rfl rfl ZO) ?_) | (refine XZ rfl 63 _ rfl g (i*7) rfl v _ HR.out Zs rfl Yo ?_) | (refine Zm rfl _ _ _ rfl W.heap.size (Zd v) rfl rfl 63 _ (ZD W _) Yo rfl (Yy v) ?_; rw [Zu]) | (refine XZ rfl 63 _ rfl (w.heap.size+1) 0 rfl v _ Hd.out.range Zs rfl Yo ?_) | (refine XZ rfl 63 _ rfl W.heap.size 0 rfl v _ oq.out.range Zs rfl Yo ?_));exact ⟨_,results_tmp rfl _ _ _,rfl,HB.out.alloc HB.out.size _⟩
end
section
open Go Go.RowKit Go.Deep
theorem lf {l:List Yd}{i:Nat}{Qi:Yd}(h:l[i]?=some Qi)(v:Yd)(q:Int) :
  OT (OT (Xk l) Qi.st (Xk l Qi.st - 1)) v.st (OT (Xk l) Qi.st (Xk l Qi.st - 1) v.st+1) q=Xk (l.set i v) q:=by
 rw [count_set h];simp only [OT]
 by_cases e1:Qi.st=q
 ·subst e1
  by_cases e2:Qi.st=v.st
  ·rw [←e2]; simp
  ·have e3: ¬v.st=Qi.st:=fun e=>e2 e.symm
   simp [e2,e3]
 ·have e4: ¬q=Qi.st:=fun e=>e1 e.symm
  by_cases e2:v.st=q
  ·subst e2;simp [e1,e4]
  ·have e3: ¬q=v.st:=fun e=>e2 e.symm
   simp [e1,e2,e3,e4]
theorem mW (b cap m cp g i:Nat)(l:List Yd)(Qi v:Yd)(w:Zc)(h:RegB w b m (.slice (some ⟨g,0,none⟩) l.length cp) cap (Xk l) (ZY l) (ZA l))(ho:w.ownsRow 0 63 7 (.slice (some ⟨g,0,none⟩) l.length cp) l.length (XC l))(hi:l[i]?=some Qi)
  (Kt:v≠Qi) (hl:l.length≤4096) (hf: ∀x ∈ l,Yq x) (hv:Yq v) (zy:ZA l≤18446744073709551615) (hT:18446744073709551615 < ZA l - Qi.bal+v.bal) :
  Zi Zb 187 #[.pointer (some ⟨b,0,none⟩),.int .i64 i,.agg (Zd v)] w fun e w'=>e= .returned (.int .i64 10)∧Kept (fun i=>i=b∨i=m∨i=g) w w'∧RegB w' b m (.slice (some ⟨g,0,none⟩) l.length cp) cap (Xk l) (ZY l) (ZA l)∧w'.ownsRow 0 63 7 (.slice (some ⟨g,0,none⟩) l.length cp) l.length (XC l):=by
 obtain ⟨EB,hr,hgb,hgm⟩:=ON b cap m l.length cp g i l Qi v w h ho hi;have ⟨v0,v1⟩:=hv.bal;have tN:=hf Qi (ZE hi);have ⟨o0,o1⟩:=tN.bal;have zz:Qi.bal≤ZA l∧liveBal Qi≤ZY l∧1≤Xk l Qi.st∧ZY l - liveBal Qi≤ZA l - Qi.bal:=by
  exact Zga
 obtain ⟨MD,hA⟩:=active_le hf;have Ns:=count_bounds l Qi.st;have hc2:=count_bounds l v.st;have x1:=ZK (.cells (Zd v) 63) (ZK (.cells #[.pointer (some ⟨b,0,none⟩)] 88) h.cells.2.1);have HR:Hid (((w.alloc (.cells #[.pointer (some ⟨b,0,none⟩)] 88)).alloc (.cells (Zd v) 63)).rangeAt g (i*7) Qi.row):=Za (fun j u hu=>ZK _ (ZK _ (hr j u hu)));have H:=Za (CN b l.length cp i _ ((w.alloc (.cells #[.pointer (some ⟨b,0,none⟩)] 88)).alloc (.cells (Zd v) 63)) x1 EB);have HE:Hid (Zy ((w.alloc (.cells #[.pointer (some ⟨b,0,none⟩)] 88)).alloc (.cells (Zd v) 63)) (w.heap.size+1) 63 (Zd v)):=Za IJ;have HP:Hid (Zy ((w.alloc (.cells #[.pointer (some ⟨b,0,none⟩)] 88)).alloc (.cells (Zd v) 63)) w.heap.size 88 #[.pointer (some ⟨b,0,none⟩)]):=Za (YF (Zw w _ _) _);have cR:=HP.out.cell 0;have HG:=Za ((h.alloc (.cells #[.pointer (some ⟨b,0,none⟩)] 88)).alloc (.cells (Zd v) 63));have HO:=Za ((ho.alloc (.cells #[.pointer (some ⟨b,0,none⟩)] 88)).alloc (.cells (Zd v) 63));have HK:Hid (Kept (fun i=>i=b∨i=m∨i=g) w ((w.alloc (.cells #[.pointer (some ⟨b,0,none⟩)] 88)).alloc (.cells (Zd v) 63))):=Za (((ZM _ w).alloc _).alloc _);have zE:g < w.heap.size:=(ho.lt g rfl).2;have Mf:=h.1.lt;have lS:=h.2.lt;have Du:((w.alloc (.cells #[.pointer (some ⟨b,0,none⟩)] 88)).alloc (.cells (Zd v) 63)).heap.size=w.heap.size+2:=by simp
 have hi1: ¬(i:Int)< 0:=by omega
 have Uq: ¬(l.length:Int)≤(i:Int):=by omega
 have hi3:(i:Int)< (l.length:Int):=by omega
 have HI:=Za hi;have IW:=Za Kt;have HFO:=Za tN;have HV:=Za hv;obtain ⟨T,hTe⟩ : ∃T,ZA l=T:=⟨_,rfl⟩;obtain ⟨A,hAe⟩ : ∃A,ZY l=A:=⟨_,rfl⟩;rw [hTe,hAe] at zz;rw [hTe] at hT zy hA HG;rw [hAe] at MD hA HG;have CM:0≤T:=by omega
 have HTE:=Za hTe;have HAE:=Za hAe;obtain ⟨n0,Mm⟩ : ∃n,w.heap.size=n:=⟨_,rfl⟩;have HN0:=Za Mm;rw [Mm] at HE HP cR zE Mf lS Du;have hob:=zz.1;have nH:=Za Du;clear Du;clear h ho hi hr hf Kt tN hv hTe hAe;go_enter_defers Tryz.func187,Tryz.ntmps187;go_wp2_with fail;generalize ((w.alloc (.cells #[.pointer (some ⟨b,0,none⟩)] 88)).alloc (.cells (Zd v) 63))=W at*;refine H.out.mono ?_;rintro e w1 ⟨rfl,rfl⟩;have Hd:Hid (Zy (W.alloc (.cells (Zd Qi) 63)) (n0+1) 63 (Zd v)):=Za (HE.out.alloc _);have oq:Hid (Zy (W.alloc (.cells (Zd Qi) 63)) W.heap.size 63 (Zd Qi)):=Za (Zw _ _ _);go_wp2_with (first | (refine Ec (.bool false) rfl (Su rfl rfl (by simp [IW.out])) ?_) | (refine XZ rfl 63 _ rfl g (i*7) rfl Qi _ HR.out Zs rfl Yo ?_) | (refine Zm rfl _ _ _ rfl W.heap.size (Zd Qi) rfl rfl 63 _ (ZD W _) Yo rfl (Yy Qi) ?_; rw [Zu]) | (refine XZ rfl 63 _ rfl (n0+1) 0 rfl v _ Hd.out.range Zs rfl Yo ?_) | (refine XZ rfl 63 _ rfl W.heap.size 0 rfl Qi _ oq.out.range Zs rfl Yo ?_));have zd:Hid (Zy (W.alloc (.cells (Zd Qi) 63)) n0 88 #[.pointer (some ⟨b,0,none⟩)]):=Za (HP.out.alloc _);have tC:=Za (HG.out.alloc (.cells (Zd Qi) 63));have Oi:=Za (HO.out.alloc (.cells (Zd Qi) 63));have Na:=Za (HK.out.alloc (.cells (Zd Qi) 63));have Zcc:(W.alloc (.cells (Zd Qi) 63)).heap.size=n0+3:=by have:=nH.out; simp; omega
 have S1:(W.alloc (.cells (Zd Qi) 63)).cell? ⟨n0,0,none⟩=some (.pointer (some ⟨b,0,none⟩))∧(W.alloc (.cells (Zd Qi) 63)).cell? ⟨b,4,none⟩=some (.int .u64 T)∧(W.alloc (.cells (Zd Qi) 63)).cell? ⟨n0+2,0,none⟩=some (.int .u64 Qi.bal)∧(W.alloc (.cells (Zd Qi) 63)).cell? ⟨n0+1,0,none⟩=some (.int .u64 v.bal):=
  ⟨zd.out.cell 0,tC.out.cells.2.2.2.2,by rw [←nH.out]; exact oq.out.cell 0,Hd.out.cell 0⟩
 have Mb:=Za S1;rw [nH.out] at oq;simp only [nH.out];clear HE HP HG HO HK cR x1 H HR S1;generalize W.alloc (.cells (Zd Qi) 63)=W2 at*;refine MZ (fun _=>True) 15 15 [] trivial ?_;refine Zj ?_;refine KX (fun w'=>w'.cell? ⟨n0,0,none⟩=some (.pointer (some ⟨b,0,none⟩))∧w'.cell? ⟨b,4,none⟩=some (.int .u64 T)∧w'.cell? ⟨n0+2,0,none⟩=some (.int .u64 Qi.bal)∧w'.cell? ⟨n0+1,0,none⟩=some (.int .u64 v.bal)) (m:=15) (f:=6) [0,1,2,3,4,5,6,7,8] (fun _ _=>trivial) Yi Mb.out ?_;simp only [qF,qH];show ZB _ _ _ _ [_,_,_,_,_,_,_,_,_] _;refine Yw 88 _ _ (.pointer (some ⟨b,0,none⟩)) rfl rfl rfl (fun w h=>by simp [go_sem,h]) (fun w h=>h.1) ?_;simp only [qB];iterate 2 (go_big_quiet_step ((intros; rfl)))
 refine Yw 22 _ _ (.int .u64 T) rfl rfl rfl (fun w h=>by simp [go_sem,h]) (fun w h=>h.2.1) ?_;simp only [qB];iterate 1 (go_big_quiet_step ((intros; rfl)))
 refine Yw 22 _ _ (.int .u64 Qi.bal) rfl rfl rfl (fun w h=>by simp [go_sem,h]) (fun w h=>h.2.2.1) ?_;simp only [qB];iterate 2 (go_big_quiet_step ((intros; rfl)))
 refine Yw 22 _ _ (.int .u64 v.bal) rfl rfl rfl (fun w h=>by simp [go_sem,h]) (fun w h=>h.2.2.2) ?_;simp only [qB];refine Zj ?_;refine Qt (i:=9) ?_;refine YE rfl rfl (QN 143 22 (.tmp 33) (.tmp 35) _ _ (.int .u64 (T - Qi.bal)) (.int .u64 v.bal) rfl rfl rfl QX DK rfl rfl rfl ⟨⟨ZK _ Mb.out.1,ZK _ Mb.out.2.1,ZK _ Mb.out.2.2.1,ZK _ Mb.out.2.2.2⟩,?_⟩);refine Qt (i:=10) ?_;simp only [YL,qG,qS];refine JM #[.slice (some ⟨W2.drew.heap.size,0,none⟩) 2 2] GQ ((RK W2.drew.heap.size (T - Qi.bal) v.bal _ (Zw W2.drew _ _) Zp Zp v0 v1 Zp).mono ?_);rintro e w3 ⟨rfl,hw3⟩;have S3:w3.cell? ⟨n0,0,none⟩=some (.pointer (some ⟨b,0,none⟩))∧w3.cell? ⟨b,4,none⟩=some (.int .u64 T)∧w3.cell? ⟨n0+2,0,none⟩=some (.int .u64 Qi.bal)∧w3.cell? ⟨n0+1,0,none⟩=some (.int .u64 v.bal):=by exact ZgJ
 refine ⟨_,rfl,S3,?_⟩;have HZ:Hid (Kept (fun i=>i=b∨i=m∨i=g) w w3∧RegB w3 b m (.slice (some ⟨g,0,none⟩) l.length cp) cap (Xk l) A T∧w3.ownsRow 0 63 7 (.slice (some ⟨g,0,none⟩) l.length cp) l.length (XC l)):=Za (hw3▸⟨Na.out.drew.alloc _,(tC.out.drewN 1).alloc _,QG (w:=W2.drew) Oi.out _⟩);clear hw3;simp only [YL,qG,qS];refine Wv (fun w'=>w'.cell? ⟨n0,0,none⟩=some (.pointer (some ⟨b,0,none⟩))∧w'.cell? ⟨b,4,none⟩=some (.int .u64 T)∧w'.cell? ⟨n0+2,0,none⟩=some (.int .u64 Qi.bal)∧w'.cell? ⟨n0+1,0,none⟩=some (.int .u64 v.bal)) (m:=4) (f:=0) [11,12,13,14] S3 ?_;simp only [qF,qH];show ZB _ _ _ _ [_,_,_,_] _;iterate 4 (go_big_quiet_step ((intros; rfl)))
 refine Zj ?_;show YH _ _ _ _ _=true∧_;refine ⟨by kernel_rfl,?_⟩;simp only [qA];clear S3 Mb;go_wp2;refine ZH ?_;go_wp2;refine ⟨_,results_tmp rfl _ _ _,rfl,?_⟩;rw [HTE.out,HAE.out];exact HZ.out
theorem xU (b cap m cp g i:Nat)(l:List Yd)(Qi v:Yd)(w:Zc)(h:RegB w b m (.slice (some ⟨g,0,none⟩) l.length cp) cap (Xk l) (ZY l) (ZA l))(ho:w.ownsRow 0 63 7 (.slice (some ⟨g,0,none⟩) l.length cp) l.length (XC l))(hi:l[i]?=some Qi)
  (Kt:v≠Qi) (hl:l.length≤4096) (hf: ∀x ∈ l,Yq x) (hv:Yq v) (zy:ZA l≤18446744073709551615) (hT:ZA l - Qi.bal+v.bal≤18446744073709551615) :
  Zi Zb 187 #[.pointer (some ⟨b,0,none⟩),.int .i64 i,.agg (Zd v)] w fun e w'=>e= .returned (.int .i64 0)∧Kept (fun i=>i=b∨i=m∨i=g) w w'∧RegB w' b m (.slice (some ⟨g,0,none⟩) l.length cp) cap (Xk (l.set i v)) (ZY (l.set i v)) (ZA (l.set i v))∧w'.ownsRow 0 63 7 (.slice (some ⟨g,0,none⟩) l.length cp) l.length (XC (l.set i v)):=by
 obtain ⟨EB,hr,hgb,hgm⟩:=ON b cap m l.length cp g i l Qi v w h ho hi;have ⟨v0,v1⟩:=hv.bal;have tN:=hf Qi (ZE hi);have ⟨o0,o1⟩:=tN.bal;have zz:Qi.bal≤ZA l∧liveBal Qi≤ZY l∧1≤Xk l Qi.st∧ZY l - liveBal Qi≤ZA l - Qi.bal:=by
  exact Zga
 obtain ⟨MD,hA⟩:=active_le hf;have Ns:=count_bounds l Qi.st;have hc2:=count_bounds l v.st;have x1:=ZK (.cells (Zd v) 63) (ZK (.cells #[.pointer (some ⟨b,0,none⟩)] 88) h.cells.2.1);have HR:Hid (((w.alloc (.cells #[.pointer (some ⟨b,0,none⟩)] 88)).alloc (.cells (Zd v) 63)).rangeAt g (i*7) Qi.row):=Za (fun j u hu=>ZK _ (ZK _ (hr j u hu)));have H:=Za (CN b l.length cp i _ ((w.alloc (.cells #[.pointer (some ⟨b,0,none⟩)] 88)).alloc (.cells (Zd v) 63)) x1 EB);have HE:Hid (Zy ((w.alloc (.cells #[.pointer (some ⟨b,0,none⟩)] 88)).alloc (.cells (Zd v) 63)) (w.heap.size+1) 63 (Zd v)):=Za IJ;have HP:Hid (Zy ((w.alloc (.cells #[.pointer (some ⟨b,0,none⟩)] 88)).alloc (.cells (Zd v) 63)) w.heap.size 88 #[.pointer (some ⟨b,0,none⟩)]):=Za (YF (Zw w _ _) _);have cR:=HP.out.cell 0;have HG:=Za ((h.alloc (.cells #[.pointer (some ⟨b,0,none⟩)] 88)).alloc (.cells (Zd v) 63));have HO:=Za ((ho.alloc (.cells #[.pointer (some ⟨b,0,none⟩)] 88)).alloc (.cells (Zd v) 63));have HK:Hid (Kept (fun i=>i=b∨i=m∨i=g) w ((w.alloc (.cells #[.pointer (some ⟨b,0,none⟩)] 88)).alloc (.cells (Zd v) 63))):=Za (((ZM _ w).alloc _).alloc _);have zE:g < w.heap.size:=(ho.lt g rfl).2;have Mf:=h.1.lt;have lS:=h.2.lt;have Du:((w.alloc (.cells #[.pointer (some ⟨b,0,none⟩)] 88)).alloc (.cells (Zd v) 63)).heap.size=w.heap.size+2:=by simp
 have hi1: ¬(i:Int)< 0:=by omega
 have Uq: ¬(l.length:Int)≤(i:Int):=by omega
 have hi3:(i:Int)< (l.length:Int):=by omega
 have HI:=Za hi;have IW:=Za Kt;have HFO:=Za tN;have HV:=Za hv;obtain ⟨T,hTe⟩ : ∃T,ZA l=T:=⟨_,rfl⟩;obtain ⟨A,hAe⟩ : ∃A,ZY l=A:=⟨_,rfl⟩;rw [hTe,hAe] at zz;rw [hTe] at hT zy hA HG;rw [hAe] at MD hA HG;have CM:0≤T:=by omega
 have HTE:=Za hTe;have HAE:=Za hAe;obtain ⟨n0,Mm⟩ : ∃n,w.heap.size=n:=⟨_,rfl⟩;have HN0:=Za Mm;rw [Mm] at HE HP cR zE Mf lS Du;have hob:=zz.1;have nH:=Za Du;clear Du;clear h ho hi hr hf Kt tN hv hTe hAe;go_enter_defers Tryz.func187,Tryz.ntmps187;go_wp2_with fail;generalize ((w.alloc (.cells #[.pointer (some ⟨b,0,none⟩)] 88)).alloc (.cells (Zd v) 63))=W at*;refine H.out.mono ?_;rintro e w1 ⟨rfl,rfl⟩;have Hd:Hid (Zy (W.alloc (.cells (Zd Qi) 63)) (n0+1) 63 (Zd v)):=Za (HE.out.alloc _);have oq:Hid (Zy (W.alloc (.cells (Zd Qi) 63)) W.heap.size 63 (Zd Qi)):=Za (Zw _ _ _);go_wp2_with (first | (refine Ec (.bool false) rfl (Su rfl rfl (by simp [IW.out])) ?_) | (refine XZ rfl 63 _ rfl g (i*7) rfl Qi _ HR.out Zs rfl Yo ?_) | (refine Zm rfl _ _ _ rfl W.heap.size (Zd Qi) rfl rfl 63 _ (ZD W _) Yo rfl (Yy Qi) ?_; rw [Zu]) | (refine XZ rfl 63 _ rfl (n0+1) 0 rfl v _ Hd.out.range Zs rfl Yo ?_) | (refine XZ rfl 63 _ rfl W.heap.size 0 rfl Qi _ oq.out.range Zs rfl Yo ?_));have zd:Hid (Zy (W.alloc (.cells (Zd Qi) 63)) n0 88 #[.pointer (some ⟨b,0,none⟩)]):=Za (HP.out.alloc _);have tC:=Za (HG.out.alloc (.cells (Zd Qi) 63));have Oi:=Za (HO.out.alloc (.cells (Zd Qi) 63));have Na:=Za (HK.out.alloc (.cells (Zd Qi) 63));have Zcc:(W.alloc (.cells (Zd Qi) 63)).heap.size=n0+3:=by have:=nH.out; simp; omega
 have S1:(W.alloc (.cells (Zd Qi) 63)).cell? ⟨n0,0,none⟩=some (.pointer (some ⟨b,0,none⟩))∧(W.alloc (.cells (Zd Qi) 63)).cell? ⟨b,4,none⟩=some (.int .u64 T)∧(W.alloc (.cells (Zd Qi) 63)).cell? ⟨n0+2,0,none⟩=some (.int .u64 Qi.bal)∧(W.alloc (.cells (Zd Qi) 63)).cell? ⟨n0+1,0,none⟩=some (.int .u64 v.bal):=
  ⟨zd.out.cell 0,tC.out.cells.2.2.2.2,by rw [←nH.out]; exact oq.out.cell 0,Hd.out.cell 0⟩
 have Mb:=Za S1;rw [nH.out] at oq;simp only [nH.out];clear HE HP HG HO HK cR x1 H HR S1;generalize W.alloc (.cells (Zd Qi) 63)=W2 at*;refine MZ (fun _=>True) 15 15 [] trivial ?_;refine Zj ?_;refine KX (fun w'=>w'.cell? ⟨n0,0,none⟩=some (.pointer (some ⟨b,0,none⟩))∧w'.cell? ⟨b,4,none⟩=some (.int .u64 T)∧w'.cell? ⟨n0+2,0,none⟩=some (.int .u64 Qi.bal)∧w'.cell? ⟨n0+1,0,none⟩=some (.int .u64 v.bal)) (m:=15) (f:=6) [0,1,2,3,4,5,6,7,8] (fun _ _=>trivial) Yi Mb.out ?_;simp only [qF,qH];show ZB _ _ _ _ [_,_,_,_,_,_,_,_,_] _;refine Yw 88 _ _ (.pointer (some ⟨b,0,none⟩)) rfl rfl rfl (fun w h=>by simp [go_sem,h]) (fun w h=>h.1) ?_;simp only [qB];iterate 2 (go_big_quiet_step ((intros; rfl)))
 refine Yw 22 _ _ (.int .u64 T) rfl rfl rfl (fun w h=>by simp [go_sem,h]) (fun w h=>h.2.1) ?_;simp only [qB];iterate 1 (go_big_quiet_step ((intros; rfl)))
 refine Yw 22 _ _ (.int .u64 Qi.bal) rfl rfl rfl (fun w h=>by simp [go_sem,h]) (fun w h=>h.2.2.1) ?_;simp only [qB];iterate 2 (go_big_quiet_step ((intros; rfl)))
 refine Yw 22 _ _ (.int .u64 v.bal) rfl rfl rfl (fun w h=>by simp [go_sem,h]) (fun w h=>h.2.2.2) ?_;simp only [qB];refine Zj ?_;refine Qt (i:=9) ?_;refine YE rfl rfl (QN 143 22 (.tmp 33) (.tmp 35) _ _ (.int .u64 (T - Qi.bal)) (.int .u64 v.bal) rfl rfl rfl QX DK rfl rfl rfl ⟨⟨ZK _ Mb.out.1,ZK _ Mb.out.2.1,ZK _ Mb.out.2.2.1,ZK _ Mb.out.2.2.2⟩,?_⟩);refine Qt (i:=10) ?_;simp only [YL,qG,qS];refine JM #[.slice (some ⟨W2.drew.heap.size,0,none⟩) 2 2] GQ ((RL W2.drew.heap.size (T - Qi.bal) v.bal _ (Zw W2.drew _ _) Zp v0 hT).mono ?_);rintro e w3 ⟨rfl,hw3⟩;have S3:w3.cell? ⟨n0,0,none⟩=some (.pointer (some ⟨b,0,none⟩))∧w3.cell? ⟨b,4,none⟩=some (.int .u64 T)∧w3.cell? ⟨n0+2,0,none⟩=some (.int .u64 Qi.bal)∧w3.cell? ⟨n0+1,0,none⟩=some (.int .u64 v.bal):=by exact ZgJ
 refine ⟨_,rfl,S3,?_⟩;have HZ:Hid (Kept (fun i=>i=b∨i=m∨i=g) w w3∧RegB w3 b m (.slice (some ⟨g,0,none⟩) l.length cp) cap (Xk l) A T∧w3.ownsRow 0 63 7 (.slice (some ⟨g,0,none⟩) l.length cp) l.length (XC l)∧Zy w3 n0 88 #[.pointer (some ⟨b,0,none⟩)]∧Zy w3 (n0+1) 63 (Zd v)∧Zy w3 (n0+2) 63 (Zd Qi)):=
  Za (hw3▸⟨Na.out.drew.alloc _,(tC.out.drewN 1).alloc _,QG (w:=W2.drew) Oi.out _,YF (J3 zd.out) _,YF (J3 Hd.out) _,YF (J3 oq.out) _⟩)
 clear Na tC Oi zd Hd oq;clear hw3;simp only [YL,qG,qS];refine Wv (fun w'=>w'.cell? ⟨n0,0,none⟩=some (.pointer (some ⟨b,0,none⟩))∧w'.cell? ⟨b,4,none⟩=some (.int .u64 T)∧w'.cell? ⟨n0+2,0,none⟩=some (.int .u64 Qi.bal)∧w'.cell? ⟨n0+1,0,none⟩=some (.int .u64 v.bal)) (m:=4) (f:=0) [11,12,13,14] S3 ?_;simp only [qF,qH];show ZB _ _ _ _ [_,_,_,_] _;iterate 4 (go_big_quiet_step ((intros; rfl)))
 refine Zj ?_;show YH _ _ _ _ _=true∧_;refine ⟨by kernel_rfl,?_⟩;simp only [qA];clear S3 Mb;have IZ: ∀(fn:Fn) (first cap:Array Zo) (w:Zc),(Instr.makeFunc fn first cap).run Zb w= .ok (.func fn first cap) w:=fun _ _ _ _=>rfl
 go_wp2;refine ZH ?_;go_wp2;clear IZ;have d0:=HZ.out.2.2.2.1.cell 0;have d1:=HZ.out.2.1.cells.2.1;refine Bj 7 ?_;simp only [qT,qD];iterate 5 (go_big_quiet_step (fail))
 refine JG 63 (.tmp 5) (n0+1) 0 v _ rfl rfl rfl (fun w h=>by obtain ⟨n,rfl⟩:=h; exact (Xz HZ.out.2.2.2.2.1 n).range) Zs rfl Yo ?_;simp only [qB]
 repeat (go_big_quiet_step (fail))
 refine Zj ?_;intro _ Jw;obtain ⟨n1,Xl⟩:=Jw;subst Xl;obtain ⟨hos,hth⟩:=NG (w:=w3.drewN n1) HZ.out.2.2.1 HI.out v;have hos:=Za hos;refine wpList_store_mid rfl 63 _ _ rfl g (i*7) (Zd v) rfl rfl hth Yo (Yy v) ?_;have vY:Kept (fun i=>i=g) (w3.drewN n1) ((w3.drewN n1).setCells g (i*7) (Zd v).toList):=Kept.setCells _ _ _ (ZM _ _) (.inl rfl);have H5:Hid (RegB ((w3.drewN n1).setCells g (i*7) (Zd v).toList) b m (.slice (some ⟨g,0,none⟩) l.length cp) cap (Xk l) A T∧((w3.drewN n1).setCells g (i*7) (Zd v).toList).ownsRow 0 63 7 (.slice (some ⟨g,0,none⟩) l.length cp) l.length (XC (l.set i v))∧Kept (fun i=>i=b∨i=m∨i=g) w ((w3.drewN n1).setCells g (i*7) (Zd v).toList)∧
   Zy ((w3.drewN n1).setCells g (i*7) (Zd v).toList) n0 88 #[.pointer (some ⟨b,0,none⟩)]∧Zy ((w3.drewN n1).setCells g (i*7) (Zd v).toList) (n0+1) 63 (Zd v)∧Zy ((w3.drewN n1).setCells g (i*7) (Zd v).toList) (n0+2) 63 (Zd Qi)):=
  Za ⟨(HZ.out.2.1.drewN n1).same (vY.block b (HZ.out.2.1.1.lt) (fun e=>hgb e.symm)) (vY.block m (HZ.out.2.1.2.lt) (fun e=>hgm e.symm)),hos.out,(HZ.out.1.drewN n1).trans vY (fun _ _ e=> .inr (.inr e)),
   (Xz HZ.out.2.2.2.1 n1).kept vY Zp,(Xz HZ.out.2.2.2.2.1 n1).kept vY Zp,(Xz HZ.out.2.2.2.2.2 n1).kept vY Zp⟩
 clear vY hth d0 d1;generalize (w3.drewN n1).setCells g (i*7) (Zd v).toList=W5 at*;have HC:=Za (aE b m cap n0 (n0+2) (n0+1) _ (Xk l) A T Qi v W5 H5.out.1 H5.out.2.2.2.1 H5.out.2.2.2.2.2 H5.out.2.2.2.2.1 HFO.out HV.out zz.2.1 hA zz.2.2.2 hob zy hT zz.2.2.1 Zp hc2.1 Zp);have HOS:=Za H5.out.2.1;go_wp2;refine leaves_cons (f:=241) (args:= #[.pointer (some ⟨n0,0,none⟩),.pointer (some ⟨n0+2,0,none⟩),.pointer (some ⟨n0+1,0,none⟩)]) ZO (by simp [go_sem]) ?_;refine (HC.out.2 _).mono ?_;rintro e u' w6 ⟨rfl,rfl,hr6,hk6⟩;refine ⟨_,results_tmp rfl _ _ _,rfl,H5.out.2.2.1.trans hk6 (fun _ _ h=>h.elim .inl (fun h=> .inr (.inl h))),?_,?_⟩
 ·have e1:ZY (l.set i v)=A - liveBal Qi+liveBal v:=by rw [active_set HI.out,HAE.out]
  have e2:ZA (l.set i v)=T - Qi.bal+v.bal:=by rw [total_set HI.out,HTE.out]
  rw [e1,e2];exact ⟨hr6.1,hr6.2.congr (fun q=>lf HI.out v q)⟩
 ·exact KJ H5.out.2.1 (fun j hj=>by
   injection hj with hj;subst hj;exact hk6.block _ ((H5.out.2.1.lt _ rfl).2) (by rintro (h | h); exact hgb h; exact hgm h))
theorem sb (b cap:Nat)(S:Nat→Prop)(i:Int)(l:List Yd)(v:Yd)(w:Zc)(h:Fe w b S cap l)(hv:Yq v) :
  Zi Zb 187 #[.pointer (some ⟨b,0,none⟩),.int .i64 i,.agg (Zd v)] w fun e w'=>
   ((i < 0∨l.length≤i)∧e= .returned (.int .i64 7)∧Fe w' b S cap l∧Kept S w w')∨
   ∃(k:Nat) (Qi:Yd),i=k∧l[k]?=some Qi∧((ZA l - Qi.bal+v.bal≤18446744073709551615∧e= .returned (.int .i64 0)∧Fe w' b S cap (l.set k v)∧Kept S w w')∨(18446744073709551615 < ZA l - Qi.bal+v.bal∧e= .returned (.int .i64 10)∧Fe w' b S cap l∧Kept S w w')):=by
 have Zfz:=h;obtain ⟨m,s,h1,h2,h3,h4,h5,h6,h7,hS⟩:=h;obtain ⟨a,cp,rfl,_,_⟩:=Ut h2
 by_cases ho:i < 0∨(l.length:Int)≤i
 ·exact (gI b l.length cp a i v w h1.cells.2.1 ho).mono fun e w' ⟨he,hb⟩=> .inl ⟨ho,he,Zfz.below hb,Y4 hb⟩
 ·obtain ⟨k,rfl⟩ : ∃k:Nat,i=k:=⟨i.toNat,by omega⟩;have hk:k < l.length:=by omega
  obtain ⟨Qi,hold⟩ : ∃Qi,l[k]?=some Qi:=⟨_,Zf hk⟩;obtain ⟨g,rfl⟩ : ∃g,a=some ⟨g,0,none⟩:=by
   rcases h2.2 with ⟨_,h9⟩ | ⟨g,_,_,h9,_⟩
   ·omega
   ·injection h9 with h9; exact ⟨g,h9⟩
  have ME: ∀i,(Yr (some ⟨g,0,none⟩) l.length cp).ownBlock=some i ↔ i=g:=fun i=>by simp [Xq,eq_comm]
  have zM: ∀w',Kept (fun i=>i=b∨i=m∨i=g) w w'→Kept S w w':=fun w' hk=>hk.more (fun i _ hi=>(hS i).2 (hi.imp id (Or.imp id (fun e=>(ME i).2 e))))
  by_cases he:v=Qi
  ·subst he;have wD:l.set k v=l:=by
    refine List.ext_getElem? fun j=>?_
    rw [List.getElem?_set]
    split
    ·rename_i hj; subst hj; rw [hold]; try simp [hk]
    ·rfl
   exact (mX b cap m cp g k l v w h1 h2 hold).mono fun e w' ⟨he,hb⟩=> .inr ⟨k,v,rfl,hold,.inl ⟨by omega,he,by rw [wD]; exact Zfz.below hb,Y4 hb⟩⟩
  ·by_cases ht:ZA l - Qi.bal+v.bal≤18446744073709551615
   ·refine (xU b cap m cp g k l Qi v w h1 h2 hold he Zp h7 hv h6 ht).mono fun e w' ⟨he,dH,r1,r2⟩=> .inr ⟨k,Qi,rfl,hold,.inl ⟨ht,he,⟨m,_,r1,by simpa using r2,h3,h4,by simpa using h5,?_,?_,hS⟩,zM w' dH⟩⟩
    ·rw [total_set hold]; exact ht
    ·intro x hx
     rcases List.mem_or_eq_of_mem_set hx with hx | rfl
     ·exact h7 x hx
     ·exact hv
   ·exact (mW b cap m cp g k l Qi v w h1 h2 hold he Zp h7 hv h6 Zp).mono fun e w' ⟨he,dH,r1,r2⟩=> .inr ⟨k,Qi,rfl,hold,.inr ⟨by omega,he,⟨m,_,r1,r2,h3,h4,h5,h6,h7,hS⟩,zM w' dH⟩⟩
end
section
open Go Go.RowKit Go.Deep
theorem Bw {w:Zc}{base:Nat}{e:ZT}{k:Nat}{v:Zo}{n:Nat}{xs:List Zo}(h:w.ownsRow base e k v n xs){B:Nat}(hB:B≤base) :w.ownsRow B e k v n xs:=by
 refine ⟨h.1,h.2.imp id ?_⟩;rintro ⟨g,cp,cur,rfl,h1,h2⟩;exact ⟨g,cp,cur,rfl,by omega,h2⟩
theorem wL {w w':Zc}{S:Nat→Prop}{a:Option Addr}{l:List Yd}(h:Dj w S a l)(hb:Zt w.heap.size w w') :0 < l.length→ ∃ad,a=some ad∧ ∀j u,(XC l)[j]?=some u→w'.cell? (ad.add j)=some u:=fun h0=>(h.below hb).flat h0
theorem Ot (S:Nat→Prop)(a:Option Addr)(cp:Nat)(l:List Yd)(w:Zc)(h:Dj w S a l)(hl:l.length≤4096) :
  Zi Zb 109 #[.slice a l.length cp] w fun e w'=> ∃v,e= .returned v∧w'.ownsRow w.heap.size 63 7 v l.length (XC l)∧Zt w.heap.size w w':=by
 have HL:=Za h
 by_cases hn:a=none
 ·subst hn;have h0:l.length=0:=by
   rcases Nat.eq_zero_or_pos l.length with h0 | h0
   ·exact h0
   ·obtain ⟨b,off,h1,_⟩:=h h0
    cases h1
  obtain rfl:=Z3 h0;clear h HL;have heq:=fun (w:Zc) (a:Option Addr) (n c:Nat)=>Lib.run_eql_slice_nil (P:=Zb) w 46 63 a n c 0 0 Ud
  go_enter Tryz.func109,Tryz.ntmps109;go_wp2;go_ret;exact ⟨_,rfl,Xj _ _ _ _,Zr _ _⟩
 ·obtain ⟨ad,rfl⟩:=Option.ne_none_iff_exists'.1 hn;obtain ⟨i,hi,hz,wC,Hu⟩:=ID;have hlen:=Hr l;have HLEN:=Za hlen;clear h hn hlen;have heq:=fun (w:Zc) (a:Option Addr) (n c:Nat)=>Lib.run_eql_slice_nil (P:=Zb) w 46 63 a n c 0 0 Ud
  go_enter Tryz.func109,Tryz.ntmps109;go_wp2_with (at_builtin; refine QL _ rfl (.tmp 5) (.tmp 6) 46 rfl w.heap.size 63 i _ 7 56 Ud hi hz wC Hu (O9 _) Zp (.slice (some ⟨w.heap.size,0,none⟩) 0 0) 0 [] rfl (fN (Zw w _ _) (Zg _)) (some ad) l.length cp (XC l) rfl (by rw [HLEN.out]) (fun h0=>wL HL.out ((Zr _ _).alloc (Zg _) _) h0) pG US Zp ZO ?_; intro v w1 ho hg hv);have hZ:w1.ownsRow w.heap.size 63 7 v l.length (XC l)∧Zt w.heap.size w w1:=by
   refine ⟨by simpa using ho,?_⟩;exact Bo ((Zr _ _).alloc (Zg _) _) (g:=w.heap.size) hg ZO (Zg _)
  have HZ:=Za hZ;clear ho hg hv hZ hi hz wC Hu;go_wp2;go_ret;exact ⟨_,rfl,HZ.out⟩
theorem uY (b cap:Nat)(S:Nat→Prop)(l:List Yd)(w:Zc)(h:Fe w b S cap l) :
  Zi Zb 55 #[.pointer (some ⟨b,0,none⟩)] w fun e w'=> ∃v,e= .returned v∧w'.ownsRow w.heap.size 63 7 v l.length (XC l)∧Zt w.heap.size w w':=by
 obtain ⟨m,a,cp,x0,x1,x2,x3,x4,q1,q2,_,hL⟩:=h.cells;have hl:=h.fits;have H:=Za (Ot _ a cp l w hL Zp);clear h hL hl x0 x2 x3 x4;go_enter Tryz.func55,Tryz.ntmps55;go_wp2_with fail;refine H.out.mono ?_;rintro e w1 ⟨v,rfl,ho,hb⟩;have HZ:=Za (And.intro ho hb);clear ho hb H;go_wp2_with fail;go_ret;exact ⟨_,rfl,HZ.out⟩
theorem ja (b cap:Nat)(S:Nat→Prop)(i:Int)(l:List Yd)(w:Zc)(h:Fe w b S cap l) :
  Zi Zb 70 #[.pointer (some ⟨b,0,none⟩),.int .i64 i] w fun e w'=>Zt w.heap.size w w'∧(((i < 0∨l.length≤i)∧e= .returned (.tuple #[.agg (Zd Z9),.bool false]))∨ ∃(k:Nat) (v:Yd),i=k∧l[k]?=some v∧e= .returned (.tuple #[.agg (Zd v),.bool true])):=by
 obtain ⟨m,a,cp,x0,x1,x2,x3,x4,q1,q2,_,hL⟩:=h.cells
 by_cases ho:i < 0∨(l.length:Int)≤i
 ·refine (Zby (some ⟨b,0,none⟩) i w (fun w' hb=>?_)).mono fun e w' ⟨he,hb⟩=>⟨hb,.inl ⟨ho,he⟩⟩
  exact jf b l.length cp a i w' ((hb.cell (p:=⟨b,1,none⟩) (UH x1)).trans x1) ho
 ·obtain ⟨k,rfl⟩ : ∃k:Nat,i=k:=⟨i.toNat,by omega⟩;have hk:k < l.length:=by omega
  obtain ⟨v,hv⟩ : ∃v,l[k]?=some v:=⟨_,Zf hk⟩;obtain ⟨g,off,rfl,hr⟩:=hL.at hv;exact (Zbx b l.length cp k g off v w x1 hk hr).mono fun e w' ⟨he,hb⟩=>⟨hb,.inr ⟨k,v,rfl,hv,he⟩⟩
end
section
open Go Go.ChangeShapes Go.WideShapes Go.RowKit Go.Deep
def Jv (p:Int × Int) :List Zo:= [.int .i64 p.1,.int .i64 p.2]
def cellsP (p:Int × Int) :Array Zo:=(Jv p).toArray
theorem Um (p:Int × Int) :(cellsP p).all (·.oneCell')=true:=by
 refine Array.all_eq_true_iff_forall_mem.2 (fun u hu=>?_);simp only [cellsP,Jv,List.mem_toArray,List.mem_cons,List.not_mem_nil,or_false] at hu
 rcases hu with rfl | rfl <;> rfl
theorem Be:(Tryz.prog.info? 73).map (·.size)=some 2:=by kernel_rfl
theorem FU:(Tryz.prog.info? 281).map (·.size)=some 2:=by kernel_rfl
theorem zU: ∃i,Tryz.prog.info? 3=some i:=by
 have h:(Tryz.prog.info? 3).isSome=true:=by kernel_rfl
 exact Option.isSome_iff_exists.1 h
theorem vF (x y:Int × Int)(w:Zc) :(Op.equalIn 10000 281 (.agg (cellsP x)) (.agg (cellsP y))).run Zb w= .ok (decide (x=y)) w:=by
 obtain ⟨i,hi⟩:=zU;rw [run_equalIn_array w 9999 (cellsP x) (cellsP y) Tryz.underlying281 hi,show Tryz.prog.cellsOf 3=1 by kernel_rfl];exact Zf1
theorem aX {a:Act}{dst:Option Tmp}{yt ty:ZT}{x y:YI}{pos:String}{after:Array Edge}{guard:Option (Nat × Bool)}{w:Zc}{p q:Int × Int}{r:Bool}(hx:a.eval x= .agg (cellsP p))(hy:a.eval y= .agg (cellsP q))(hr:decide (p=q)=r) :
  (Xr a.eval { dst,op:= .binOp .eql 281 x y yt,type:=ty,pos,after,guard}).run Zb w= .ok (.value (.bool r)) w:=by
 simp only [Xr,hx,hy,Yl,KK w .eql _ x y _ _ (show Tryz.prog.eqGuardType Tryz.prog.depth 281=false by kernel_rfl),ZW,run_eql_struct,vF p q w,YJ,hr]
def dQ (w:Zc)(S:Nat→Prop)(a:Option Addr)(q:List (Int × Int)) :Prop:=
 0 < q.length→ ∃b off,a=some ⟨b,off,none⟩∧ ¬S b∧b < w.heap.size∧ ∀i p,q[i]?=some p→w.rangeAt b (off+i*2) (Jv p)
section
variable {w w':Zc} {S T:Nat→Prop} {a:Option Addr} {q:List (Int × Int)}
theorem dQ.nil (w:Zc)(S:Nat→Prop)(a:Option Addr) :dQ w S a []:=fun h=>by simp at h
theorem dQ.same (h:dQ w S a q)(hs:w.heap.size≤w'.heap.size)(hb: ∀b,b < w.heap.size→ ¬S b→w'.heap[b]?=w.heap[b]?) :dQ w' S a q:=fun h0=>by
 obtain ⟨b,off,h1,h2,h3,h4⟩:=h h0;exact ⟨b,off,h1,h2,by omega,fun i v hi=>World.rangeAt.same (h4 i v hi) (hb b h3 h2)⟩
theorem dQ.below (h:dQ w S a q)(hb:Zt w.heap.size w w') :dQ w' S a q:=h.same hb.size fun b XJ _=>hb.block b XJ
theorem dQ.more (h:dQ w S a q)(hT: ∀i,i < w.heap.size→T i→S i) :dQ w T a q:=fun h0=>by
 obtain ⟨b,off,h1,h2,h3,h4⟩:=h h0;exact ⟨b,off,h1,fun ht=>h2 (hT b h3 ht),h3,h4⟩
theorem dQ.at (h:dQ w S a q){i:Nat}{p:Int × Int}(hi:q[i]?=some p) : ∃b off,a=some ⟨b,off,none⟩∧w.rangeAt b (off+i*2) (Jv p):=by
 obtain ⟨b,off,h1,_,_,h4⟩:=h IL;exact ⟨b,off,h1,h4 i p hi⟩
end
section
variable {P:YZ} {ops:Array Oper} {rest:List Oper} {op:Oper} {a:Act} {w:Zc} {Q:Exit→Act→Zc→Prop}
theorem BG {C:Zc→Prop}{Qa:Act→Prop}(ty:ZT)(x:YI)(b o:Nat)(p:Int × Int)(d:TypeDesc)(hw:Region.wanted op (yielded ops a.tmps)=true)(ho:op.op= .load ty x)(hx:a.eval x= .pointer (some ⟨b,o,none⟩))
  (hC: ∀w,C w→w.rangeAt b o (Jv p)) (hu:P.underlying ty=some d) (hd:d.isRow=true) (hi:(P.info? ty).map (·.size)=some 2)
  (h:ZB P ops C Qa rest (a.put op.dst (.agg (cellsP p)))) :ZB P ops C Qa (op::rest) a:=by
 unfold ZB;rw [if_pos hw];refine ⟨_,fun w hc=>?_,h⟩;unfold Oper.quietAt Xr;simp only [ho,hx,Instr.loadAt,Instr.sureAddr,Yl,YJ,ZW,run_loadVar_mid w b o ty (Jv p) d (hC w hc) hu hd hi];exact BV
end
end
section
def Mo (s d:Yd) :Bool:=decide (s.st≠2∨d.st≠2)
def Lm (s d:Yd) :Bool:=s.sl||d.sl
def Mq (s d:Yd)(mb:Int) :Bool:=decide (18446744073709551615 < s.bal+d.bal∨mb < s.bal+d.bal)
def DQ (s d:Yd)(mb:Int) :Int:=if Mo s d=true then 8 else if Lm s d=true then 9 else if Mq s d mb=true then 3 else 0
def Fg (s:Yd) :Yd:= { s with bal:=0,st:=7}
def Oh (s d:Yd) :Yd:= { d with bal:=d.bal+s.bal}
def Db (l:List Yd)(p:Int × Int)(mb:Int) :Int:=
 if p.1 < 0∨p.2 < 0∨(l.length:Int)≤p.1∨(l.length:Int)≤p.2 then 7 else if p.1=p.2 then 12 else DQ (l.getD p.1.toNat Z9) (l.getD p.2.toNat Z9) mb
def SR (l:List Yd)(i j:Nat) :List Yd:=(l.set i (Fg (l.getD i Z9))).set j (Oh (l.getD i Z9) (l.getD j Z9))
def UO (l:List Yd)(p:Int × Int)(mb:Int) :List Yd:=if Db l p mb=0 then SR l p.1.toNat p.2.toNat else l
def J8 (mb:Int) :List Yd→List (Int × Int)→List Yd
 | l,[]=>l
 | l,p::q=>J8 mb (UO l p mb) q
def FY (mb:Int) :List Yd→List (Int × Int)→List Bool
 | _,[]=> []
 | l,p::q=>decide (Db l p mb=0)::FY mb (UO l p mb) q
theorem Se {s d:Yd}{mb:Int}(h:DQ s d mb=0) :s.st=2∧d.st=2∧s.sl=false∧d.sl=false∧s.bal+d.bal≤18446744073709551615∧s.bal+d.bal≤mb:=by
 unfold DQ at h
 split at h
 ·omega
 ·split at h
  ·omega
  ·split at h
   ·omega
   ·rename_i h1 h2 h3
    simp [Mo] at h1;simp [Lm] at h2;simp [Mq] at h3;exact ⟨h1.1,h1.2,h2.1,h2.2,by omega,by omega⟩
theorem gw {l:List Yd}{p:Int × Int}{mb:Int}(h:Db l p mb=0) : ∃(i j:Nat) (s d:Yd),p=((i:Int),(j:Int))∧i≠j∧l[i]?=some s∧l[j]?=some d∧DQ s d mb=0:=by
 unfold Db at h
 split at h
 ·omega
 ·split at h
  ·omega
  ·rename_i h1 h2
   obtain ⟨p1,p2⟩:=p;simp only at h h1 h2;refine ⟨p1.toNat,p2.toNat,l.getD p1.toNat Z9,l.getD p2.toNat Z9,?_,by omega,?_,?_,h⟩
   ·simp only [Prod.mk.injEq];omega
   ·exact sW
   ·exact sW
theorem Vg {l:List Yd}{i:Nat}{v:Yd}(h:l[i]?=some v) :l.getD i Z9=v:=by rw [List.getD_eq_getElem?_getD,h]; rfl
theorem rO {l:List Yd}{i j:Nat}{s d:Yd}(mb:Int)(hi:l[i]?=some s)(hj:l[j]?=some d) :Db l ((i:Int),(j:Int)) mb=if i=j then 12 else DQ s d mb:=by
 have h1:=(Zh.1 hi).1;have h2:=(Zh.1 hj).1;unfold Db;rw [if_neg Ef];simp only [YX,Vg hi,Vg hj]
 by_cases h:i=j
 ·rw [if_pos Zp,if_pos h]
 ·rw [if_neg Zp,if_neg h]
theorem ra (l:List Yd)(i j:Nat) :(SR l i j).length=l.length:=by simp [SR]
theorem wX (l:List Yd)(p:Int × Int)(mb:Int) :(UO l p mb).length=l.length:=by unfold UO; split <;> simp [ra]
theorem OP (mb:Int)(q:List (Int × Int)) : ∀l,(J8 mb l q).length=l.length:=by
 induction q with
 | nil=>intro l; rfl
 | cons p q ih=>intro l; rw [J8,ih,wX]
theorem AM (mb:Int)(q:List (Int × Int)) : ∀l,(FY mb l q).length=q.length:=by
 induction q with
 | nil=>intro l; rfl
 | cons p q ih=>intro l; simp [FY,ih]
theorem gN (mb:Int)(p:Int × Int)(q:List (Int × Int)) : ∀l,J8 mb l (q++[p])=UO (J8 mb l q) p mb:=by
 induction q with
 | nil=>intro l; rfl
 | cons x q ih=>intro l; simp only [Ym,J8,ih]
theorem gM (mb:Int)(p:Int × Int)(q:List (Int × Int)) : ∀l,FY mb l (q++[p])=FY mb l q++[decide (Db (J8 mb l q) p mb=0)]:=by
 induction q with
 | nil=>intro l; rfl
 | cons x q ih=>intro l; simp only [Ym,J8,FY,ih]; rfl
theorem TG {q:List (Int × Int)}{k:Nat}{p:Int × Int}(h:q[k]?=some p) :q.take (k+1)=q.take k++[p]:=by rw [List.take_add_one,h]; rfl
theorem LS (mb:Int){I:List Yd→Prop}(hI: ∀l i j s d,I l→i≠j→l[i]?=some s→l[j]?=some d→DQ s d mb=0→I ((l.set i (Fg s)).set j (Oh s d)))(q:List (Int × Int)) : ∀l,I l→I (J8 mb l q):=by
 induction q with
 | nil=>exact fun l h=>h
 | cons p q ih=>
  intro l h;rw [J8];refine ih _ ?_;unfold UO
  split
  ·rename_i h0
   obtain ⟨i,j,s,d,rfl,Kt,hi,hj,hc⟩:=gw h0;simp only [SR,YX,Vg hi,Vg hj];exact hI l i j s d h Kt hi hj hc
  ·exact h
theorem ZcE {l:List Yd}{i j:Nat}{s d:Yd}(Kt:i≠j)(hi:l[i]?=some s)(hj:l[j]?=some d)(k:Nat) :
  ((l.set i (Fg s)).set j (Oh s d))[k]?=if k=j then some (Oh s d) else if k=i then some (Fg s) else l[k]?:=by
 have h1:=(Zh.1 hi).1;have h2:=(Zh.1 hj).1
 by_cases h:k=j
 ·subst h; simp [h2]
 ·by_cases h':k=i
  ·subst h'; rw [if_neg h,if_pos rfl,YG (QA h),List.getElem?_set_self h1]
  ·rw [if_neg h,if_neg h',YG (QA h),YG (QA h')]
theorem iY {s d:Yd}{mb:Int}(hs:Yq s)(hd:Yq d)(hc:DQ s d mb=0) :Yq (Fg s)∧Yq (Oh s d):=by
 have h:=Se hc;have hs':=hs.bal;have hd':=hd.bal;refine ⟨⟨show (Lit.int .u64 0).wf=true by decide,show (Lit.int .i64 7).wf=true by decide⟩,?_,hd.2⟩;simp [Oh,Lit.wf,IntKind.min,IntKind.max,IntKind.signed,IntKind.bits];omega
theorem TD (mb:Int)(q:List (Int × Int))(l:List Yd)(h: ∀v ∈ l,Yq v) : ∀v ∈ J8 mb l q,Yq v:=by
 refine LS mb (I:=fun l=> ∀v ∈ l,Yq v) (fun l i j s d hI Kt hi hj hc v hv=>?_) q l h;obtain ⟨k,hk⟩:=List.getElem?_of_mem hv;rw [ZcE Kt hi hj] at hk;have hf:=iY (hI s (ZE hi)) (hI d (ZE hj)) hc
 split at hk
 ·injection hk with hk; subst hk; exact hf.2
 ·split at hk
  ·injection hk with hk; subst hk; exact hf.1
  ·exact hI v (ZE hk)
theorem TE (mb:Int)(q:List (Int × Int))(l:List Yd) :ZA (J8 mb l q)=ZA l∧ZY (J8 mb l q)=ZY l:=by
 refine LS mb (I:=fun m=>ZA m=ZA l∧ZY m=ZY l) (fun m i j s d hI Kt hi hj hc=>?_) q l ⟨rfl,rfl⟩;have h:=Se hc;have Pe:(m.set i (Fg s))[j]?=some d:=by exact kt
 rw [total_set Pe,total_set hi,active_set Pe,active_set hi,hI.1,hI.2];have e1:liveBal s=s.bal:=by simp [liveBal,Bm,h.1]
 have e2:liveBal d=d.bal:=by simp [liveBal,Bm,h.2.1]
 have e3:liveBal (Fg s)=0:=by simp [liveBal,Bm,Fg]
 have e4:liveBal (Oh s d)=d.bal+s.bal:=by simp [liveBal,Bm,Oh,h.2.1]
 rw [e1,e2,e3,e4];simp only [Fg,Oh];omega
end
end Go.Proofs.YtianiiijaopdpaaGreat
