/- Part 15 of 58: Structs L16Val L03Open L06Base. -/
import Derived.Test.YtianiiijaopdpaaGreatZu00
import Derived.Test.YtianiiijaopdpaaGreatZu03
import Derived.ChangeAt
import Derived.Deep.Fields
import Derived.Deep.MidRow
import Derived.Deep.WholeRow
import Derived.Laws.CopyOwn
namespace Go.Proofs.YtianiiijaopdpaaGreat
set_option linter.unusedVariables false
set_option linter.unusedSimpArgs false
set_option maxRecDepth 100000
set_option maxHeartbeats 8000000
open _root_.Go.RowKit renaming Below → Zt
open _root_.Go.Proofs.YtianiiijaopdpaaGreat.Zy renaming cell → Yh
open _root_.Go renaming Calls → Zi, Program → YZ, TypeId → ZT, Value → Zo, World → Zc, run_part_plain → Qh
open _root_.List renaming flatMap_cons → QJ, getElem?_eq_getElem → Zf, getElem?_eq_some_iff → Zh, mem_cons → Z6, not_mem_nil → Ya
open _root_.Nat renaming zero_add → Yb
open _root_.Go.Op renaming eqFields → KT
open _root_.Option.some renaming inj → ZZ
open _root_.Go.Result renaming andThen_ok → ZW
open _root_.Go.Sem renaming run_bind → Yl
open _root_.Go.Proofs.Tryz renaming prog → Zb, underlying22 → XA, underlying3 → Yg
open _root_.Go.Value renaming okWide → UF
open _root_.Go.World renaming setRow_alloc_new → Zu
theorem IL {G:Prop}(h:G:=by have:=(List.getElem?_eq_some_iff.1 hi).1; omega) :G:=h
theorem Ee {G:Prop}(h:G:=by simp [Program.plainKey,hk]) :G:=h
theorem Zdl {G:Prop} (h:G:=by
  unfold wpQuiet;rw [if_pos hw];refine ⟨_,fun w hc=>?_,h⟩;unfold Oper.quietAt execOp;simp only [ho,hx,Instr.loadAt,Instr.sureAddr,Sem.run_bind,Sem.run_pure,Result.andThen_ok,run_loadVar_mid w b o ty v.row d (hC w hc) hu hd hi];exact ⟨rfl,rfl⟩) :G:=h
theorem ZaJ {G:Prop} (h:G:=by
  simp [asAddr,run_loadVar_row w g t ty cs fr d hg hu hd hi,Result.andThen]) :G:=h
theorem td {G:Prop} (h:G:=by
  go_enter Tryz.func275,Tryz.ntmps275;go_wp2;go_ret;exact ⟨rfl,rfl⟩) :G:=h
theorem tu {G:Prop} (h:G:=by
  exact (List.getElem?_eq_some_iff.1 hu).1) :G:=h
section
open Go Go.ChangeShapes Go.WideShapes Go.RowKit Go.Deep
section
variable {H:Type} {enc:ZT × Zo→H} {P:YZ} {w:Zc} {base:Nat} {spare:Nat→Bool} {held:Bool}
theorem open_struct_ints {r:Reach}{b0:Nat}{t:ZT}{fs:Array Field}{v:Zo}{d:DataW H}{p:List MemPlace}(hs:P.underlying t=some (.struct fs))(qp:oneCellFields P fs=true)(hC:P.cellsOf t=fs.size)
  (hv:UF P w r b0 t v) (h:DataW.Trod enc P w base spare held t v d p) :
  ∃cs:Array Zo,v= .agg cs∧cs.size=fs.size∧ ∀(j:Nat) (f:Field) (k:IntKind),fs[j]?=some f→P.underlying f.type=some (.int k)→ ∃n,cs[j]?=some (.int k n)∧(Lit.int k n).wf=true:=by
 obtain ⟨cs,rfl,Du⟩:=okWide_struct hs hv;refine ⟨cs,rfl,Du.trans hC,fun j f k hj hk=>?_⟩;obtain ⟨fuel,hf⟩:=h;obtain ⟨xs,n,_,hx,_,hlen,hg⟩:=DataW.trod_struct hs hf;obtain ⟨o,kk⟩:=hone_of qp j f hj;have Df:j < fs.size:=(Array.getElem?_eq_some_iff.1 hj).1;have hjc:j < cs.size:=by omega
 have h1:=hg j f hj;have hxj:xs[j]?=some (xs[j]'Zp):=Zf Zp;rw [o,kk,hxj] at h1;have hone':((Value.agg cs).cells.toList.drop j).take 1=[cs[j]'hjc]:=by
  have hl:j < cs.toList.length:=by simpa using hjc
  show (cs.toList.drop j).take 1=_;rw [List.drop_eq_getElem_cons hl];simp
 rw [hone'] at h1;obtain ⟨m,hm,_,hw⟩:=DataW.trod_int hk h1;exact ⟨m,by rw [Array.getElem?_eq_getElem hjc]; simpa using hm,hw⟩
end
theorem XN {P:YZ}{fn:Func}{p u:Tmp}{ty:ZT}(h:fn.results= #[.cell p ty,.tmp u])(tmps:Array Zo)(w:Zc)(g:Nat)(t:ZT)(cs:Array Zo)(fr:Nat × Nat)(d:TypeDesc)
  (hp:tmps.getD p undef= .pointer (some ⟨g,0,none⟩)) (hg:w.heap[g]?=some (.cells cs t fr))
  (hu:P.underlying ty=some d) (hd:(match d with | .struct _ | .array _ _=>true | _=>false)=true) (hi:(P.info? ty).map (·.size)=some cs.size) :
  (results fn tmps).run P w= .ok (.tuple #[.agg cs,tmps.getD u undef]) w:=by
 rw [results_cell_tmp h,hp];exact ZaJ
theorem Es (w:Zc)(A:Obj)(c c':Array Zo)(t:ZT) :((w.alloc A).alloc (.cells c t)).setRow (w.heap.size+1) c'=(w.alloc A).alloc (.cells c' t):=by
 have:=Zu (w.alloc A) c c' t;simpa using this
theorem below_drewN {B:Nat}{a w:Zc}(h:Zt B a w)(n:Nat) :Zt B a (w.drewN n):=⟨h.os,h.tape,h.output,h.size,h.block⟩
theorem RX {B:Nat}{w w1 w2:Zc}(h:Zt B w w1)(h2:Zt w1.heap.size w1 w2)(hB:B≤w1.heap.size) :Zt B w w2:=h.trans (h2.mono hB)
end
section
open Go Go.ChangeShapes Go.WideShapes Go.RowKit Go.Deep
structure Yd where
 bal:Int
 st:Int
 sl:Bool
 rq:Int
 ex:Int
 wd:Int
 dl:Int
deriving DecidableEq,Inhabited
def Yd.row (v:Yd) :List Zo:= [.int .u64 v.bal,.int .i64 v.st,.bool v.sl,.int .i64 v.rq,.int .i64 v.ex,.int .i64 v.wd,.int .i64 v.dl]
def Zd (v:Yd) :Array Zo:=v.row.toArray
def Yq (v:Yd) :Prop:=(Lit.int .u64 v.bal).wf=true∧(Lit.int .i64 v.st).wf=true
def Z9:Yd:=⟨0,0,false,0,0,0,0⟩
theorem NO (v:Yd) :v.row.length=7:=rfl
theorem row_one (v:Yd) : ∀u ∈ v.row,u.oneCell'=true:=by
 intro u hu;simp only [Yd.row,Z6,Ya,or_false] at hu
 rcases hu with rfl | rfl | rfl | rfl | rfl | rfl | rfl <;> rfl
theorem Yy (v:Yd) :(Zd v).all (·.oneCell')=true:=by
 refine Array.all_eq_true_iff_forall_mem.2 (fun u hu=>row_one v u (by simpa [Zd] using hu))
theorem O9 (v:Yd) :(Zd v).size=7:=rfl
theorem Yo:(Tryz.prog.info? 63).map (·.size)=some 7:=by kernel_rfl
theorem Yq.bal {v:Yd}(h:Yq v) :0≤v.bal∧v.bal≤18446744073709551615:=bounds_u64 h.1
section
variable {P:YZ} (w:Zc)
theorem Nq (d:Nat)(xs ys:Array Zo) :
  ∀(fs:List Field),(∀f ∈ fs,f.name≠ "_" ∧((∃k n m,P.underlying f.type=some (.int k)∧xs[f.offset]?=some (.int k n)∧ys[f.offset]?=some (.int k m))∨ ∃n m,P.underlying f.type=some .bool∧xs[f.offset]?=some (.bool n)∧ys[f.offset]?=some (.bool m)))→
   ∃r,(KT (d+1) xs ys fs).run P w= .ok r w∧(r=true ↔ ∀f ∈ fs,xs[f.offset]?=ys[f.offset]?)
 | [],_=>⟨true,by simp [KT],by simp⟩
 | f::fs,h=>by
  obtain ⟨SG,h1⟩:=h f ZO;obtain ⟨r,hr,MF⟩:=Nq d xs ys fs (fun j hj=>h j (by simp [hj]))
  rcases h1 with ⟨k,n,m,hk,hn,hm⟩ | ⟨n,m,hk,hn,hm⟩
  ·have hp:=Qh w (UM hk) hn;have dJ:=Qh w (UM hk) hm;have hq:=run_equalIn_int (P:=P) w d f.type k k n m hk
   by_cases he:n=m
   ·subst he;refine ⟨r,by simp only [KT,SG,ne_eq,not_false_eq_true,if_true,Yl,hp,dJ,hq,ZW]; simpa using hr,?_⟩;simp only [Z6,forall_eq_or_imp,hn,hm,true_and];exact MF
   ·refine ⟨false,by simp only [KT,SG,ne_eq,not_false_eq_true,if_true,Yl,hp,dJ,hq,ZW]; simp [he],?_⟩;simp [hn,hm,he]
  ·have hp:=Qh (P:=P) w (e:=f.type) Ee hn;have dJ:=Qh (P:=P) w (e:=f.type) Ee hm;have hq:=run_equalIn_bool' (P:=P) w d f.type n m hk
   by_cases he:n=m
   ·subst he;refine ⟨r,by simp only [KT,SG,ne_eq,not_false_eq_true,if_true,Yl,hp,dJ,hq,ZW]; simpa using hr,?_⟩;simp only [Z6,forall_eq_or_imp,hn,hm,true_and];exact MF
   ·refine ⟨false,by simp only [KT,SG,ne_eq,not_false_eq_true,if_true,Yl,hp,dJ,hq,ZW]; simp [he],?_⟩;simp [hn,hm,he]
theorem Ow {t:ZT}{fs:Array Field}(xs ys:Array Zo)(hu:P.underlying t=some (.struct fs))(hp:P.stoodInHeld t=false)
  (hx: ∀f ∈ fs.toList,f.name≠ "_" ∧((∃k n m,P.underlying f.type=some (.int k)∧xs[f.offset]?=some (.int k n)∧ys[f.offset]?=some (.int k m))∨ ∃n m,P.underlying f.type=some .bool∧xs[f.offset]?=some (.bool n)∧ys[f.offset]?=some (.bool m))) :
  ∃r,(Op.equalIn 10000 t (.agg xs) (.agg ys)).run P w= .ok r w∧(r=true ↔ ∀f ∈ fs.toList,xs[f.offset]?=ys[f.offset]?):=by
 have hf:P.fieldsOf t=fs:=by simp [Program.fieldsOf,hu]
 rw [run_equalIn_struct w 9999 t xs ys (by rw [hf]; exact hu) hp,hf];exact Nq w 9998 xs ys _ hx
end
theorem pw (x y:Yd)(w:Zc) :(Op.equalIn 10000 63 (.agg (Zd x)) (.agg (Zd y))).run Zb w= .ok (decide (x=y)) w:=by
 obtain ⟨r,hr,MF⟩:=Ow (P:=Zb) w (Zd x) (Zd y) Tryz.underlying63 Yi (fun f hf=>by
  simp only [Z6,Ya,or_false] at hf
  rcases hf with rfl | rfl | rfl | rfl | rfl | rfl | rfl
  ·exact ⟨by decide,.inl ⟨.u64,x.bal,y.bal,XA,rfl,rfl⟩⟩
  ·exact ⟨by decide,.inl ⟨.i64,x.st,y.st,Yg,rfl,rfl⟩⟩
  ·exact ⟨by decide,.inr ⟨x.sl,y.sl,Tryz.underlying4,rfl,rfl⟩⟩
  ·exact ⟨by decide,.inl ⟨.i64,x.rq,y.rq,Yg,rfl,rfl⟩⟩
  ·exact ⟨by decide,.inl ⟨.i64,x.ex,y.ex,Yg,rfl,rfl⟩⟩
  ·exact ⟨by decide,.inl ⟨.i64,x.wd,y.wd,Yg,rfl,rfl⟩⟩
  ·exact ⟨by decide,.inl ⟨.i64,x.dl,y.dl,Yg,rfl,rfl⟩⟩)
 refine hr.trans ?_;have:r=decide (x=y):=by
  rw [Bool.eq_iff_iff,MF,decide_eq_true_eq];constructor
  ·intro h;simp only [Z6,Ya,or_false,forall_eq_or_imp,forall_eq] at h;obtain ⟨h0,h1,h2,h3,h4,h5,h6⟩:=h;obtain ⟨a0,a1,a2,a3,a4,a5,a6⟩:=x;obtain ⟨b0,b1,b2,b3,b4,b5,b6⟩:=y;simp [Zd,Yd.row] at h0 h1 h2 h3 h4 h5 h6;simp [*]
  ·rintro rfl;simp
 rw [this]
def XC (l:List Yd) :List Zo:=l.flatMap Yd.row
theorem Hr (l:List Yd) :(XC l).length=l.length*7:=by
 induction l with
 | nil=>rfl
 | cons x l ih=>simp only [XC,QJ,List.length_append,NO,List.length_cons] at ih ⊢; omega
theorem Hp (l m:List Yd) :XC (l++m)=XC l++XC m:=by simp [XC]
theorem pH (v:Yd) :XC [v]=v.row:=by simp [XC]
theorem pG {l:List Yd} : ∀u ∈ XC l,u.oneCell'=true:=by
 intro u hu;obtain ⟨v,_,hv⟩:=List.mem_flatMap.1 hu;exact row_one v u hv
theorem iZ {l:List Yd}{i:Nat}{v:Yd}(h:l[i]?=some v){j:Nat}(hj:j < 7) :(XC l)[i*7+j]?=v.row[j]?:=by
 induction l generalizing i with
 | nil=>simp at h
 | cons x l ih=>
  cases i with
  | zero=>
   simp at h;subst h;simp only [XC,QJ,Nat.zero_mul,Yb];rw [List.getElem?_append_left (by rw [NO]; exact hj)]
  | succ i=>
   simp only [List.getElem?_cons_succ] at h;have:=ih h;simp only [XC,QJ] at this ⊢;rw [List.getElem?_append_right (by rw [NO]; omega),NO,show (i+1)*7+j - 7=i*7+j by omega];exact this
theorem Mt {w:Zc}{b off:Nat}{l:List Yd}(h: ∀j u,(XC l)[j]?=some u→w.cell? ⟨b,off+j,none⟩=some u){i:Nat}{v:Yd}(hi:l[i]?=some v) :w.rangeAt b (off+i*7) v.row:=by
 intro j u hu;have hj:j < 7:=(Zh.1 hu).1;rw [Nat.add_assoc];exact h _ _ ((iZ hi hj).trans hu)
theorem Wt {w:Zc}{b off:Nat}{l:List Yd}(h: ∀i v,l[i]?=some v→w.rangeAt b (off+i*7) v.row) : ∀j u,(XC l)[j]?=some u→w.cell? ⟨b,off+j,none⟩=some u:=by
 intro j u hu;have hj:j < l.length*7:=by rw [←Hr]; exact tu
 have hq:j/7 < l.length:=by omega
 have hr:j%7 < 7:=by omega
 have e:=iZ (Zf hq) hr;rw [show j/7*7+j%7=j by omega,hu] at e;have:=h _ _ (Zf hq) (j%7) u e.symm;rwa [show off+j/7*7+j%7=off+j by omega] at this
theorem World.rangeAt.same {w w':Zc}{b o:Nat}{cs:List Zo}(h:w.rangeAt b o cs)(hb:w'.heap[b]?=w.heap[b]?) :w'.rangeAt b o cs:=fun j v hv=>(World.cell?_of_block (w:=w) (a:=⟨b,o+j,none⟩) hb).trans (h j v hv)
theorem Zy.range {w:Zc}{b t:Nat}{v:Yd}(h:Zy w b t (Zd v)) :w.rangeAt b 0 v.row:=fun j u hu=>by
 rw [Yb,h.cell j];simpa [Zd] using hu
def Dj (w:Zc)(S:Nat→Prop)(a:Option Addr)(l:List Yd) :Prop:=
 0 < l.length→ ∃b off,a=some ⟨b,off,none⟩∧ ¬S b∧b < w.heap.size∧ ∀i v,l[i]?=some v→w.rangeAt b (off+i*7) v.row
section
variable {w w':Zc} {S T:Nat→Prop} {a:Option Addr} {l:List Yd} {B:Nat}
theorem Dj.nil (w:Zc)(S:Nat→Prop)(a:Option Addr) :Dj w S a []:=fun h=>by simp at h
theorem Dj.same (h:Dj w S a l)(hs:w.heap.size≤w'.heap.size)(hb: ∀b,b < w.heap.size→ ¬S b→w'.heap[b]?=w.heap[b]?) :Dj w' S a l:=fun h0=>by
 obtain ⟨b,off,h1,h2,h3,h4⟩:=h h0;exact ⟨b,off,h1,h2,by omega,fun i v hi=>World.rangeAt.same (h4 i v hi) (hb b h3 h2)⟩
theorem Dj.below (h:Dj w S a l)(hb:Zt w.heap.size w w') :Dj w' S a l:=h.same hb.size fun b XJ _=>hb.block b XJ
theorem Dj.alloc (h:Dj w S a l)(o:Obj) :Dj (w.alloc o) S a l:=h.same ZO fun b XJ _=>Below.heap_alloc w o b XJ
theorem Dj.drewN (h:Dj w S a l)(n:Nat) :Dj (w.drewN n) S a l:=h
theorem Dj.drew (h:Dj w S a l) :Dj w.drew S a l:=h
theorem Dj.more (h:Dj w S a l)(hT: ∀i,i < w.heap.size→T i→S i) :Dj w T a l:=fun h0=>by
 obtain ⟨b,off,h1,h2,h3,h4⟩:=h h0;exact ⟨b,off,h1,fun ht=>h2 (hT b h3 ht),h3,h4⟩
theorem Dj.at (h:Dj w S a l){i:Nat}{v:Yd}(hi:l[i]?=some v) : ∃b off,a=some ⟨b,off,none⟩∧w.rangeAt b (off+i*7) v.row:=by
 obtain ⟨b,off,h1,_,_,h4⟩:=h IL;exact ⟨b,off,h1,h4 i v hi⟩
theorem Dj.flat (h:Dj w S a l)(h0:0 < l.length) : ∃ad,a=some ad∧ ∀j u,(XC l)[j]?=some u→w.cell? (ad.add j)=some u:=by
 obtain ⟨b,off,h1,_,_,h4⟩:=h h0;refine ⟨⟨b,off,none⟩,h1,fun j u hu=>?_⟩;rw [add_plain];exact Wt h4 j u hu
end
section
variable {P:YZ} {ops:Array Oper} {rest:List Oper} {op:Oper} {a:Act} {w:Zc} {Q:Exit→Act→Zc→Prop}
theorem XZ (BU:op.guard=none)(ty:ZT)(x:Operand)(ho:op.op= .load ty x)
  (b o:Nat) (hx:a.eval x= .pointer (some ⟨b,o,none⟩)) (v:Yd) (d:TypeDesc) (hc:w.rangeAt b o v.row)
  (hu:P.underlying ty=some d) (hd:d.isRow=true) (hi:(P.info? ty).map (·.size)=some 7)
  (h:wpList P ops Q rest (a.put op.dst (.agg (Zd v))) w) :wpList P ops Q (op::rest) a w:=
 wpList_load_mid BU ty x ho b o hx v.row d hc hu hd hi h
theorem JG {C:Zc→Prop}{Qa:Act→Prop}(ty:ZT)(x:Operand)(b o:Nat)(v:Yd)(d:TypeDesc)(hw:Region.wanted op (yielded ops a.tmps)=true)(ho:op.op= .load ty x)(hx:a.eval x= .pointer (some ⟨b,o,none⟩))
  (hC: ∀w,C w→w.rangeAt b o v.row) (hu:P.underlying ty=some d) (hd:d.isRow=true) (hi:(P.info? ty).map (·.size)=some 7)
  (h:wpQuiet P ops C Qa rest (a.put op.dst (.agg (Zd v)))) :wpQuiet P ops C Qa (op::rest) a:=by
 exact Zdl
end
end
section
open Go Go.ChangeShapes Go.WideShapes Go.RowKit Go.Deep
def ZeN (x0 x1 x2 x3 x4 x5 x6 x7 x8 x9 x10 x11 x12 x13 x14 x15 x16 x17 x18 x19:Int) :Nat→Int
 | 0=>x0
 | 1=>x1
 | 2=>x2
 | 3=>x3
 | 4=>x4
 | 5=>x5
 | 6=>x6
 | 7=>x7
 | 8=>x8
 | 9=>x9
 | 10=>x10
 | 11=>x11
 | 12=>x12
 | 13=>x13
 | 14=>x14
 | 15=>x15
 | 16=>x16
 | 17=>x17
 | 18=>x18
 | 19=>x19
 | _=>0
theorem open_T24 {H:Type}{enc:ZT × Zo→H}{w:Zc}{base:Nat}{spare:Nat→Bool}{held:Bool}{r:Reach}{b0:Nat}{v:Zo}{d:DataW H}{p:List MemPlace}
  (hv:UF Zb w r b0 24 v) (h:DataW.Trod enc Zb w base spare held 24 v d p) : ∃c:Nat→Int,v= .agg (Zk c)∧Wj c:=by
 obtain ⟨cs,rfl,Du,H⟩:=open_struct_ints Tryz.underlying24 Yi Yi hv h;obtain ⟨n0,h0,w0⟩:=H 0 _ .i64 rfl Yg;obtain ⟨n1,h1,w1⟩:=H 1 _ .i64 rfl Yg;obtain ⟨n2,h2,w2⟩:=H 2 _ .u64 rfl XA;obtain ⟨n3,h3,w3⟩:=H 3 _ .u64 rfl XA;obtain ⟨n4,h4,w4⟩:=H 4 _ .u64 rfl XA;obtain ⟨n5,h5,w5⟩:=H 5 _ .u64 rfl XA;obtain ⟨n6,h6,w6⟩:=H 6 _ .u64 rfl XA;obtain ⟨n7,h7,w7⟩:=H 7 _ .u64 rfl XA;obtain ⟨n8,h8,w8⟩:=H 8 _ .u64 rfl XA;obtain ⟨n9,h9,w9⟩:=H 9 _ .u64 rfl XA;obtain ⟨n10,Wd,w10⟩:=H 10 _ .i64 rfl Yg;obtain ⟨n11,Gj,w11⟩:=H 11 _ .i64 rfl Yg;obtain ⟨n12,We,w12⟩:=H 12 _ .i64 rfl Yg;obtain ⟨n13,lL,w13⟩:=H 13 _ .i64 rfl Yg;obtain ⟨n14,h14,w14⟩:=H 14 _ .i64 rfl Yg;obtain ⟨n15,h15,w15⟩:=H 15 _ .i64 rfl Yg;obtain ⟨n16,pQ,w16⟩:=H 16 _ .i64 rfl Yg;obtain ⟨n17,h17,w17⟩:=H 17 _ .i64 rfl Yg;obtain ⟨n18,h18,w18⟩:=H 18 _ .u64 rfl XA;obtain ⟨n19,h19,w19⟩:=H 19 _ .u64 rfl XA;obtain ⟨l⟩:=cs
 match l,Du with
 | [c0,c1,c2,c3,c4,c5,c6,c7,c8,c9,c10,c11,c12,c13,c14,c15,c16,c17,c18,c19],_=>
  obtain rfl:=ZZ h0;obtain rfl:=ZZ h1;obtain rfl:=ZZ h2;obtain rfl:=ZZ h3;obtain rfl:=ZZ h4;obtain rfl:=ZZ h5;obtain rfl:=ZZ h6;obtain rfl:=ZZ h7;obtain rfl:=ZZ h8;obtain rfl:=ZZ h9;obtain rfl:=ZZ Wd;obtain rfl:=ZZ Gj;obtain rfl:=ZZ We;obtain rfl:=ZZ lL;obtain rfl:=ZZ h14;obtain rfl:=ZZ h15;obtain rfl:=ZZ pQ;obtain rfl:=ZZ h17;obtain rfl:=ZZ h18;obtain rfl:=ZZ h19;refine ⟨ZeN n0 n1 n2 n3 n4 n5 n6 n7 n8 n9 n10 n11 n12 n13 n14 n15 n16 n17 n18 n19,rfl,fun k hk=>?_⟩;have:k=0∨k=1∨k=2∨k=3∨k=4∨k=5∨k=6∨k=7∨k=8∨k=9∨k=10∨k=11∨k=12∨k=13∨k=14∨k=15∨k=16∨k=17∨k=18∨k=19:=by omega
  rcases this with rfl | rfl | rfl | rfl | rfl | rfl | rfl | rfl | rfl | rfl | rfl | rfl | rfl | rfl | rfl | rfl | rfl | rfl | rfl | rfl
  ·exact w0
  ·exact w1
  ·exact w2
  ·exact w3
  ·exact w4
  ·exact w5
  ·exact w6
  ·exact w7
  ·exact w8
  ·exact w9
  ·exact w10
  ·exact w11
  ·exact w12
  ·exact w13
  ·exact w14
  ·exact w15
  ·exact w16
  ·exact w17
  ·exact w18
  ·exact w19
end
section
open Go.RowKit
def KC (w:Zc)(b:Nat)(D P B C:Int) :Prop:=Zy w b 182 #[.int .u64 D,.int .u64 P,.int .u64 B,.int .u64 C]
def zh (w:Zc)(d:Nat)(D P B C:Int) :Prop:=Zy w d 111 #[.int .u64 C,.int .u64 D,.int .u64 P,.int .u64 B]
def JA (D P B C:Int) :Prop:=0≤P∧0≤B∧P+B≤D∧D≤18446744073709551615∧D - P - B≤C∧C≤18446744073709551615
section
variable {w w':Zc} {b d:Nat} {D P B C:Int}
theorem KC.cells (h:KC w b D P B C) :w.cell? ⟨b,0,none⟩=some (.int .u64 D)∧w.cell? ⟨b,1,none⟩=some (.int .u64 P)∧w.cell? ⟨b,2,none⟩=some (.int .u64 B)∧w.cell? ⟨b,3,none⟩=some (.int .u64 C):=
 ⟨Yh h 0,Yh h 1,Yh h 2,Yh h 3⟩
theorem zh.cells (h:zh w d D P B C) :w.cell? ⟨d,0,none⟩=some (.int .u64 C)∧w.cell? ⟨d,1,none⟩=some (.int .u64 D)∧w.cell? ⟨d,2,none⟩=some (.int .u64 P)∧w.cell? ⟨d,3,none⟩=some (.int .u64 B):=
 ⟨Yh h 0,Yh h 1,Yh h 2,Yh h 3⟩
end
theorem aw (b:Nat)(D P B:Int)(w:Zc)(h0:w.cell? ⟨b,0,none⟩=some (.int .u64 D))(h1:w.cell? ⟨b,1,none⟩=some (.int .u64 P))(h2:w.cell? ⟨b,2,none⟩=some (.int .u64 B))
  (hP:0≤P) (hB:0≤B) (hD:P+B≤D) (hm:D≤18446744073709551615) :
  Zi Zb 234 #[.pointer (some ⟨b,0,none⟩)] w fun e w'=>e= .returned (.int .u64 (D - P - B))∧ ∃m,w'=w.drewN m:=by
 go_enter Tryz.func234,Tryz.ntmps234;go_wp2;go_quiet (skip);exact dy
theorem yp (b:Nat)(w:Zc) :Zi Zb 275 #[.pointer (some ⟨b,0,none⟩),.int .i64 0] w fun e w'=>e= .returned (.pointer (some ⟨b,0,none⟩))∧w=w':=by
 exact td
theorem yq (b:Nat)(w:Zc) :Zi Zb 275 #[.pointer (some ⟨b,0,none⟩),.int .i64 1] w fun e w'=>e= .returned (.pointer (some ⟨b,1,none⟩))∧w=w':=by
 exact td
theorem yr (b:Nat)(w:Zc) :Zi Zb 275 #[.pointer (some ⟨b,0,none⟩),.int .i64 2] w fun e w'=>e= .returned (.pointer (some ⟨b,2,none⟩))∧w=w':=by
 exact td
theorem wS (C:Int)(w:Zc) :
  Zi Zb 74 #[.int .u64 C] w fun e w'=>e= .returned (.pointer (some ⟨w.heap.size,0,none⟩))∧w.alloc (.cells #[.int .u64 0,.int .u64 0,.int .u64 0,.int .u64 C] 182)=w':=by
 go_enter Tryz.func74,Tryz.ntmps74;exact Vr
theorem ZcF (C:Int)(w:Zc)(c0:0≤C)(c1:C≤18446744073709551615) :
  Zi Zb 74 #[.int .u64 C] w fun e w'=>e= .returned (.pointer (some ⟨w.heap.size,0,none⟩))∧KC w' w.heap.size 0 0 0 C∧JA 0 0 0 C∧Zt w.heap.size w w'∧w'.heap.size=w.heap.size+1:=
 (wS C w).mono fun e w' ⟨he,hw⟩=>⟨he,hw▸Zy.new _ _ _,⟨by omega,by omega,by omega,by omega,by omega,c1⟩,hw▸(Below.refl _ _).alloc (Nat.le_refl _) _,by rw [←hw]; simp⟩
theorem zV:(Tryz.prog.info? 132).map (·.size)=some 3:=by kernel_rfl
theorem An:(Tryz.prog.info? 180).map (·.size)=some 3:=by kernel_rfl
theorem gS (b:Nat)(D P B C:Int)(w:Zc)(h:KC w b D P B C) :
  Zi Zb 52 #[.pointer (some ⟨b,0,none⟩)] w fun e w'=>e= .returned (.agg #[.int .u64 D,.int .u64 P,.int .u64 B])∧Zt w.heap.size w w':=by
 have hr:(w.alloc (.cells #[.int .u64 0,.int .u64 0,.int .u64 0] 132)).rangeAt b 0 [.int .u64 D,.int .u64 P,.int .u64 B]:=by
  have hb:=Zy.alloc h (.cells #[.int .u64 0,.int .u64 0,.int .u64 0] 132);intro j v hv;have hj:j < 3:=(Zh.1 hv).1;rw [Yb,Yh hb j];obtain rfl | rfl | rfl:j=0∨j=1∨j=2:=by omega
  all_goals exact hv
 have HR:=Lib.hid hr;clear h hr;go_enter Tryz.func52,Tryz.ntmps52;go_wp2_with (first | (refine wpList_load_mid rfl 180 _ rfl b 0 rfl _ _ HR.out Tryz.underlying180 rfl An ?_) | (refine wpList_store_row rfl _ _ _ rfl w.heap.size #[.int .u64 D,.int .u64 P,.int .u64 B] rfl rfl 132 _ (heap_alloc_new w _) zV rfl rfl ?_; rw [Zu]));exact bodyPost_ret (v:= .agg #[.int .u64 D,.int .u64 P,.int .u64 B]) (results_cell_row (fn:=Tryz.f52) rfl _ _ w.heap.size 132 _ (0,0) _ rfl (heap_alloc_new w _) Tryz.underlying132 rfl zV) rfl ⟨rfl,(Below.refl _ _).alloc (Nat.le_refl _) _⟩
end
end Go.Proofs.YtianiiijaopdpaaGreat
