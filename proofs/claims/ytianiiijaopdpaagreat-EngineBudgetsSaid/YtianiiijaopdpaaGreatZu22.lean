/- Part 22 of 58: L17Py L17Rq L21As L21Pm L21Oq. -/
import Derived.Test.YtianiiijaopdpaaGreatZu00
import Derived.Test.YtianiiijaopdpaaGreatZu13
import Derived.Test.YtianiiijaopdpaaGreatZu16
namespace Go.Proofs.YtianiiijaopdpaaGreat
set_option linter.unusedVariables false
set_option linter.unusedSimpArgs false
set_option maxRecDepth 100000
set_option maxHeartbeats 8000000
open _root_.Array renaming all_eq_true_iff_forall_mem → ZV
open _root_.Go.Instr renaming buildSlice → Y1, fill → VF
open _root_.List renaming getElem?_eq_getElem → Zf, map_cons → YW, map_nil → JB, map_toArray → QF, mem_cons → Z6, not_mem_nil → Ya
open _root_.Go.Lit renaming int → YT
open _root_.Go.Oper renaming wp → Q8
open _root_.Go renaming Operand → YI, TypeDesc → Kd, TypeId → ZT, Value → Zo, World → Zc, execOp → Xr, run_eqGuard_agg → KK, run_underlying → Y3, wpList → YU, wpQuiet → ZB, yielded → J2
open _root_.Go.Region renaming wanted → Xc
open _root_.Go.Result renaming andThen_ok → ZW
open _root_.Go.Sem renaming run_bind → Yl, run_pure → YJ
open _root_.Go.Proofs.Tryz renaming prog → Zb, underlying22 → XA, underlying3 → Yg, underlying40 → Uc
theorem ZgL {G:Prop} (h:G:=by
  cases hi:Tryz.prog.info? 61 with
  | none=>rw [hi] at h; cases h
  | some i=>
   rw [hi] at h;simp at h;exact ⟨i,rfl,h.1,h.2.1,h.2.2⟩) :G:=h
theorem ZgM {G:Prop} (h:G:=by
  cases hi:Tryz.prog.info? 75 with
  | none=>rw [hi] at h; cases h
  | some i=>
   rw [hi] at h;simp at h;exact ⟨i,rfl,h.1,h.2.1,h.2.2⟩) :G:=h
theorem ZaN {G:Prop} (h:G:=by
  exact ⟨by decide,.inl ⟨.i64,x.ix,y.ix,Tryz.underlying3,rfl,rfl⟩⟩) :G:=h
theorem ko {G:Prop} (h:G:=by
  rcases hu with rfl | rfl | rfl <;> rfl) :G:=h
section
open Go Go.ChangeShapes Go.WideShapes Go.RowKit Go.Deep
structure Py where
 ix:Int
 am:Int
 fu:Bool
deriving DecidableEq,Inhabited
def Py.row (v:Py) :List Zo:= [.int .i64 v.ix,.int .u64 v.am,.bool v.fu]
def J0 (v:Py) :Array Zo:=v.row.toArray
def pyZ:Py:=⟨0,0,false⟩
theorem Py.row_len (v:Py) :v.row.length=3:=rfl
theorem Py.row_one (v:Py) : ∀u ∈ v.row,u.oneCell'=true:=by
 intro u hu;simp only [Py.row,Z6,Ya,or_false] at hu;exact ko
theorem aC (v:Py) :(J0 v).all (·.oneCell')=true:=by
 refine ZV.2 (fun u hu=>Py.row_one v u (by simpa [J0] using hu))
theorem Fq (v:Py) :(J0 v).size=3:=rfl
theorem qO:(Tryz.prog.info? 61).map (·.size)=some 3:=by kernel_rfl
theorem iM: ∃i,Tryz.prog.info? 61=some i∧i.zero=some (.agg (J0 pyZ))∧i.size=3∧i.bytes=24:=by
 have h:(Tryz.prog.info? 61).map (fun i=>(i.zero,i.size,i.bytes))=some (some (.agg (J0 pyZ)),3,24):=by kernel_rfl
 exact ZgL
section
variable {P:Program} {ops:Array Oper} {rest:List Oper} {op:Oper} {a:Act} {w:Zc} {Q:Exit→Act→Zc→Prop}
theorem F6 (hg:op.guard=none)(t:ZT)(parts:Array (Nat × YI))(ho:op.op= .build t parts)(v:Py)
  (hf:P.built t (parts.map fun (i,x)=>(i,a.eval x)).toList=some (J0 v)) (h:YU P ops Q rest (a.put op.dst (.agg (J0 v))) w) :YU P ops Q (op::rest) a w:=
 wpList_build hg t parts ho (by rw [hf]; rfl) (by rw [hf]; exact h)
end
theorem mQ (x:Py)(w:Zc) :(Y1 40 1 #[(0,.agg (J0 x))]).run Zb w= .ok (.slice (some ⟨w.heap.size,0,none⟩) 1 1) (w.alloc (.cells (J0 x) 61)):=by
 obtain ⟨i,hi,hz,hs,Hu⟩:=iM;simp [Y1,Y3 Uc,sizeOf,typeInfo,hi,hz,hs,VF,newRow,go_sem,J0,Py.row]
theorem sF {o:Oper}{a:Act}{w:Zc}{K:Act→Zc→Prop}{Q:Exit→Act→Zc→Prop}(x:YI)(p:Py)(ho:o.op= .buildSlice 40 1 #[(0,x)])(hx:a.eval x= .agg (J0 p))
  (h:K (a.put o.dst (.slice (some ⟨w.heap.size,0,none⟩) 1 1)) (w.alloc (.cells (J0 p) 61))) :o.wp Zb a w K Q:=by
 unfold Q8 Xr;simp only [ho,QF,YW,JB,hx,Yl,mQ p w,ZW,YJ];exact h
theorem NZ {ops:Array Oper}{rest:List Oper}{o:Oper}{a:Act}{w:Zc}{Q:Exit→Act→Zc→Prop}(BU:o.guard=none)(x:YI)(p:Py)(ho:o.op= .buildSlice 40 1 #[(0,x)])(hx:a.eval x= .agg (J0 p))
  (h:YU Zb ops Q rest (a.put o.dst (.slice (some ⟨w.heap.size,0,none⟩) 1 1)) (w.alloc (.cells (J0 p) 61))) :YU Zb ops Q (o::rest) a w:=
 wpList_plain BU fun _ hK=>sF x p ho hx (hK _ _ h)
end
section
open Go Go.ChangeShapes Go.WideShapes Go.RowKit Go.Deep
structure Rq where
 ix:Int
 am:Int
deriving DecidableEq,Inhabited
def Rq.row (v:Rq) :List Zo:= [.int .i64 v.ix,.int .u64 v.am]
def ZG (v:Rq) :Array Zo:=v.row.toArray
def UY (v:Rq) :Prop:=(YT .i64 v.ix).wf=true∧(YT .u64 v.am).wf=true
def L8:Rq:=⟨0,0⟩
theorem Rq.row_len (v:Rq) :v.row.length=2:=rfl
theorem Rq.row_one (v:Rq) : ∀u ∈ v.row,u.oneCell'=true:=by
 intro u hu;simp only [Rq.row,Z6,Ya,or_false] at hu
 rcases hu with rfl | rfl <;> rfl
theorem Kn (v:Rq) :(ZG v).all (·.oneCell')=true:=by
 refine ZV.2 (fun u hu=>Rq.row_one v u (by simpa [ZG] using hu))
theorem Qy:(Tryz.prog.info? 75).map (·.size)=some 2:=by kernel_rfl
theorem ZeI: ∃i,Tryz.prog.info? 75=some i∧i.zero=some (.agg (ZG L8))∧i.size=2∧i.bytes=16:=by
 have h:(Tryz.prog.info? 75).map (fun i=>(i.zero,i.size,i.bytes))=some (some (.agg (ZG L8)),2,16):=by kernel_rfl
 exact ZgM
theorem ZeT (x y:Rq)(w:Zc) :(Op.equalIn 10000 75 (.agg (ZG x)) (.agg (ZG y))).run Zb w= .ok (decide (x=y)) w:=by
 obtain ⟨r,hr,MF⟩:=EK (P:=Zb) w (ZG x) (ZG y) Tryz.underlying75 Yi (fun f hf=>by
  simp only [Z6,Ya,or_false] at hf
  rcases hf with rfl | rfl
  ·exact ZaN
  ·exact ⟨by decide,.inl ⟨.u64,x.am,y.am,XA,rfl,rfl⟩⟩)
 refine hr.trans ?_;have:r=decide (x=y):=by
  rw [Bool.eq_iff_iff,MF,decide_eq_true_eq];constructor
  ·intro h;simp only [Z6,Ya,or_false,forall_eq_or_imp,forall_eq] at h;obtain ⟨h0,h1⟩:=h;obtain ⟨a0,a1⟩:=x;obtain ⟨b0,b1⟩:=y;simp [ZG,Rq.row] at h0 h1;simp [*]
  ·rintro rfl;simp
 rw [this]
theorem lC {a:Act}{dst:Option Tmp}{yt ty:ZT}{x y:YI}{pos:String}{after:Array Edge}{guard:Option (Nat × Bool)}{w:Zc}{p q:Rq}{r:Bool}(hx:a.eval x= .agg (ZG p))(hy:a.eval y= .agg (ZG q))(hr:decide (p=q)=r) :
  (Xr a.eval { dst,op:= .binOp .eql 75 x y yt,type:=ty,pos,after,guard}).run Zb w= .ok (.value (.bool r)) w:=by
 simp only [Xr,hx,hy,Yl,KK w .eql _ x y _ _ (show Tryz.prog.eqGuardType Tryz.prog.depth 75=false by kernel_rfl),ZW,run_eql_struct,ZeT p q w,YJ,hr]
theorem lE {a:Act}{dst:Option Tmp}{yt ty:ZT}{x y:YI}{pos:String}{after:Array Edge}{guard:Option (Nat × Bool)}{w:Zc}{p q:Rq}{r:Bool}(hx:a.eval x= .agg (ZG p))(hy:a.eval y= .agg (ZG q))(hr:(!decide (p=q))=r) :
  (Xr a.eval { dst,op:= .binOp .neq 75 x y yt,type:=ty,pos,after,guard}).run Zb w= .ok (.value (.bool r)) w:=by
 simp only [Xr,hx,hy,Yl,KK w .neq _ x y _ _ (show Tryz.prog.eqGuardType Tryz.prog.depth 75=false by kernel_rfl),ZW,run_neq_struct,ZeT p q w,YJ,hr]
theorem ZcQ {C:Zc→Prop}{Qa:Act→Prop}{ops:Array Oper}{rest:List Oper}{a:Act}{dst:Option Tmp}{yt ty:ZT}{x y:YI}{pos:String}{after:Array Edge}{guard:Option (Nat × Bool)}(p q:Rq)(r:Bool)(hw:Xc { dst,op:= .binOp .eql 75 x y yt,type:=ty,pos,after,guard} (J2 ops a.tmps)=true)(hx:a.eval x= .agg (ZG p))(hy:a.eval y= .agg (ZG q))(hr:decide (p=q)=r)
  (h:ZB Zb ops C Qa rest (a.put dst (.bool r))) :ZB Zb ops C Qa ({ dst,op:= .binOp .eql 75 x y yt,type:=ty,pos,after,guard}::rest) a:=
 GU (.bool r) hw (fun w=>lC hx hy hr) h
theorem rK {C:Zc→Prop}{Qa:Act→Prop}{ops:Array Oper}{rest:List Oper}{a:Act}{dst:Option Tmp}{yt ty:ZT}{x y:YI}{pos:String}{after:Array Edge}{guard:Option (Nat × Bool)}(p q:Rq)(r:Bool)(hw:Xc { dst,op:= .binOp .neq 75 x y yt,type:=ty,pos,after,guard} (J2 ops a.tmps)=true)(hx:a.eval x= .agg (ZG p))(hy:a.eval y= .agg (ZG q))(hr:(!decide (p=q))=r)
  (h:ZB Zb ops C Qa rest (a.put dst (.bool r))) :ZB Zb ops C Qa ({ dst,op:= .binOp .neq 75 x y yt,type:=ty,pos,after,guard}::rest) a:=
 GU (.bool r) hw (fun w=>lE hx hy hr) h
section
variable {P:Program} {ops:Array Oper} {rest:List Oper} {op:Oper} {a:Act} {w:Zc} {Q:Exit→Act→Zc→Prop}
theorem TQ (BU:op.guard=none)(ty:ZT)(x:YI)(ho:op.op= .load ty x)
  (b o:Nat) (hx:a.eval x= .pointer (some ⟨b,o,none⟩)) (v:Rq) (d:Kd) (hc:w.rangeAt b o v.row)
  (hu:P.underlying ty=some d) (hd:d.isRow=true) (hi:(P.info? ty).map (·.size)=some 2)
  (h:YU P ops Q rest (a.put op.dst (.agg (ZG v))) w) :YU P ops Q (op::rest) a w:=
 wpList_load_mid BU ty x ho b o hx v.row d hc hu hd hi h
theorem LO {C:Zc→Prop}{Qa:Act→Prop}(ty:ZT)(x:YI)(b o:Nat)(v:Rq)(d:Kd)(hw:Xc op (J2 ops a.tmps)=true)(ho:op.op= .load ty x)(hx:a.eval x= .pointer (some ⟨b,o,none⟩))
  (hC: ∀w,C w→w.rangeAt b o v.row) (hu:P.underlying ty=some d) (hd:d.isRow=true) (hi:(P.info? ty).map (·.size)=some 2)
  (h:ZB P ops C Qa rest (a.put op.dst (.agg (ZG v)))) :ZB P ops C Qa (op::rest) a:=by
 exact Zdl
theorem PX (hg:op.guard=none)(t:ZT)(parts:Array (Nat × YI))(ho:op.op= .build t parts)(v:Rq)
  (hf:P.built t (parts.map fun (i,x)=>(i,a.eval x)).toList=some (ZG v)) (h:YU P ops Q rest (a.put op.dst (.agg (ZG v))) w) :YU P ops Q (op::rest) a w:=
 wpList_build hg t parts ho (by rw [hf]; rfl) (by rw [hf]; exact h)
end
theorem mS (x:Rq)(w:Zc) :(Y1 49 1 #[(0,.agg (ZG x))]).run Zb w= .ok (.slice (some ⟨w.heap.size,0,none⟩) 1 1) (w.alloc (.cells (ZG x) 75)):=by
 obtain ⟨i,hi,hz,hs,Hu⟩:=ZeI;simp [Y1,Y3 Tryz.underlying49,sizeOf,typeInfo,hi,hz,hs,VF,newRow,go_sem,ZG,Rq.row]
theorem sG {o:Oper}{a:Act}{w:Zc}{K:Act→Zc→Prop}{Q:Exit→Act→Zc→Prop}(x:YI)(p:Rq)(ho:o.op= .buildSlice 49 1 #[(0,x)])(hx:a.eval x= .agg (ZG p))
  (h:K (a.put o.dst (.slice (some ⟨w.heap.size,0,none⟩) 1 1)) (w.alloc (.cells (ZG p) 75))) :o.wp Zb a w K Q:=by
 unfold Q8 Xr;simp only [ho,QF,YW,JB,hx,Yl,mS p w,ZW,YJ];exact h
end
section
open Go Go.ChangeShapes Go.WideShapes Go.RowKit Go.Deep
structure As where
 ix:Int
 cl:Int
 ep:Int
deriving DecidableEq,Inhabited
def As.row (v:As) :List Zo:= [.int .i64 v.ix,.int .i64 v.cl,.int .i64 v.ep]
def JO (v:As) :Array Zo:=v.row.toArray
def A9 (v:As) :Prop:=(YT .i64 v.ix).wf=true∧(YT .i64 v.cl).wf=true∧(YT .i64 v.ep).wf=true
theorem As.row_len (v:As) :v.row.length=3:=rfl
theorem As.row_one (v:As) : ∀u ∈ v.row,u.oneCell'=true:=by
 intro u hu;simp only [As.row,Z6,Ya,or_false] at hu;exact ko
theorem aB (v:As) :(JO v).all (·.oneCell')=true:=by
 refine ZV.2 (fun u hu=>As.row_one v u (by simpa [JO] using hu))
theorem qM:(Tryz.prog.info? 71).map (·.size)=some 3:=by kernel_rfl
end
section
open Go Go.ChangeShapes Go.WideShapes Go.RowKit Go.Deep
structure Pm where
 ix:Int
 am:Int
 fl:Bool
deriving DecidableEq,Inhabited
def Pm.row (v:Pm) :List Zo:= [.int .i64 v.ix,.int .u64 v.am,.bool v.fl]
def XP (v:Pm) :Array Zo:=v.row.toArray
def ob (v:Pm) :Prop:=(YT .i64 v.ix).wf=true∧(YT .u64 v.am).wf=true
def pmZ:Pm:=⟨0,0,false⟩
theorem Pm.row_len (v:Pm) :v.row.length=3:=rfl
theorem Pm.row_one (v:Pm) : ∀u ∈ v.row,u.oneCell'=true:=by
 intro u hu;simp only [Pm.row,Z6,Ya,or_false] at hu;exact ko
theorem O8 (v:Pm) :(XP v).all (·.oneCell')=true:=by
 refine ZV.2 (fun u hu=>Pm.row_one v u (by simpa [XP] using hu))
theorem Hy:(Tryz.prog.info? 61).map (·.size)=some 3:=by kernel_rfl
theorem ZeH: ∃i,Tryz.prog.info? 61=some i∧i.zero=some (.agg (XP pmZ))∧i.size=3∧i.bytes=24:=by
 have h:(Tryz.prog.info? 61).map (fun i=>(i.zero,i.size,i.bytes))=some (some (.agg (XP pmZ)),3,24):=by kernel_rfl
 exact ZgL
theorem Zix (x y:Pm)(w:Zc) :(Op.equalIn 10000 61 (.agg (XP x)) (.agg (XP y))).run Zb w= .ok (decide (x=y)) w:=by
 obtain ⟨r,hr,MF⟩:=EK (P:=Zb) w (XP x) (XP y) Tryz.underlying61 Yi (fun f hf=>by
  simp only [Z6,Ya,or_false] at hf
  rcases hf with rfl | rfl | rfl
  ·exact ZaN
  ·exact ⟨by decide,.inl ⟨.u64,x.am,y.am,XA,rfl,rfl⟩⟩
  ·exact ⟨by decide,.inr (.inl ⟨x.fl,y.fl,Tryz.underlying4,rfl,rfl⟩)⟩)
 refine hr.trans ?_;have:r=decide (x=y):=by
  rw [Bool.eq_iff_iff,MF,decide_eq_true_eq];constructor
  ·intro h;simp only [Z6,Ya,or_false,forall_eq_or_imp,forall_eq] at h;obtain ⟨h0,h1,h2⟩:=h;obtain ⟨a0,a1,a2⟩:=x;obtain ⟨b0,b1,b2⟩:=y;simp [XP,Pm.row] at h0 h1 h2;simp [*]
  ·rintro rfl;simp
 rw [this]
theorem lD {a:Act}{dst:Option Tmp}{yt ty:ZT}{x y:YI}{pos:String}{after:Array Edge}{guard:Option (Nat × Bool)}{w:Zc}{p q:Pm}{r:Bool}(hx:a.eval x= .agg (XP p))(hy:a.eval y= .agg (XP q))(hr:(!decide (p=q))=r) :
  (Xr a.eval { dst,op:= .binOp .neq 61 x y yt,type:=ty,pos,after,guard}).run Zb w= .ok (.value (.bool r)) w:=by
 simp only [Xr,hx,hy,Yl,KK w .neq _ x y _ _ (show Tryz.prog.eqGuardType Tryz.prog.depth 61=false by kernel_rfl),ZW,run_neq_struct,Zix p q w,YJ,hr]
theorem rJ {C:Zc→Prop}{Qa:Act→Prop}{ops:Array Oper}{rest:List Oper}{a:Act}{dst:Option Tmp}{yt ty:ZT}{x y:YI}{pos:String}{after:Array Edge}{guard:Option (Nat × Bool)}(p q:Pm)(r:Bool)(hw:Xc { dst,op:= .binOp .neq 61 x y yt,type:=ty,pos,after,guard} (J2 ops a.tmps)=true)(hx:a.eval x= .agg (XP p))(hy:a.eval y= .agg (XP q))(hr:(!decide (p=q))=r)
  (h:ZB Zb ops C Qa rest (a.put dst (.bool r))) :ZB Zb ops C Qa ({ dst,op:= .binOp .neq 61 x y yt,type:=ty,pos,after,guard}::rest) a:=
 GU (.bool r) hw (fun w=>lD hx hy hr) h
section
variable {P:Program} {ops:Array Oper} {rest:List Oper} {op:Oper} {a:Act} {w:Zc} {Q:Exit→Act→Zc→Prop}
theorem TO (BU:op.guard=none)(ty:ZT)(x:YI)(ho:op.op= .load ty x)
  (b o:Nat) (hx:a.eval x= .pointer (some ⟨b,o,none⟩)) (v:Pm) (d:Kd) (hc:w.rangeAt b o v.row)
  (hu:P.underlying ty=some d) (hd:d.isRow=true) (hi:(P.info? ty).map (·.size)=some 3)
  (h:YU P ops Q rest (a.put op.dst (.agg (XP v))) w) :YU P ops Q (op::rest) a w:=
 wpList_load_mid BU ty x ho b o hx v.row d hc hu hd hi h
theorem LN {C:Zc→Prop}{Qa:Act→Prop}(ty:ZT)(x:YI)(b o:Nat)(v:Pm)(d:Kd)(hw:Xc op (J2 ops a.tmps)=true)(ho:op.op= .load ty x)(hx:a.eval x= .pointer (some ⟨b,o,none⟩))
  (hC: ∀w,C w→w.rangeAt b o v.row) (hu:P.underlying ty=some d) (hd:d.isRow=true) (hi:(P.info? ty).map (·.size)=some 3)
  (h:ZB P ops C Qa rest (a.put op.dst (.agg (XP v)))) :ZB P ops C Qa (op::rest) a:=by
 exact Zdl
end
theorem Zy.rangePm {w:Zc}{b t:Nat}{v:Pm}(h:Zy w b t (XP v)) :w.rangeAt b 0 v.row:=fun j u hu=>by
 rw [Nat.zero_add,h.cell j];simpa [XP] using hu
theorem mP (x:Pm)(w:Zc) :(Y1 40 1 #[(0,.agg (XP x))]).run Zb w= .ok (.slice (some ⟨w.heap.size,0,none⟩) 1 1) (w.alloc (.cells (XP x) 61)):=by
 obtain ⟨i,hi,hz,hs,Hu⟩:=ZeH;simp [Y1,Y3 Uc,sizeOf,typeInfo,hi,hz,hs,VF,newRow,go_sem,XP,Pm.row]
theorem sE {o:Oper}{a:Act}{w:Zc}{K:Act→Zc→Prop}{Q:Exit→Act→Zc→Prop}(x:YI)(p:Pm)(ho:o.op= .buildSlice 40 1 #[(0,x)])(hx:a.eval x= .agg (XP p))
  (h:K (a.put o.dst (.slice (some ⟨w.heap.size,0,none⟩) 1 1)) (w.alloc (.cells (XP p) 61))) :o.wp Zb a w K Q:=by
 unfold Q8 Xr;simp only [ho,QF,YW,JB,hx,Yl,mP p w,ZW,YJ];exact h
end
section
open Go Go.ChangeShapes Go.WideShapes Go.RowKit Go.Deep
structure Oq where
 kd:Int
 ix:Int
 tg:Int
 am:Int
deriving DecidableEq,Inhabited
def Oq.row (v:Oq) :List Zo:= [.int .i64 v.kd,.int .i64 v.ix,.int .i64 v.tg,.int .u64 v.am]
def ZJ (v:Oq) :Array Zo:=v.row.toArray
def Kg (v:Oq) :Prop:=(YT .i64 v.kd).wf=true∧(YT .i64 v.ix).wf=true∧(YT .i64 v.tg).wf=true∧(YT .u64 v.am).wf=true
theorem Oq.row_len (v:Oq) :v.row.length=4:=rfl
theorem Oq.row_one (v:Oq) : ∀u ∈ v.row,u.oneCell'=true:=by
 intro u hu;simp only [Oq.row,Z6,Ya,or_false] at hu
 rcases hu with rfl | rfl | rfl | rfl <;> rfl
theorem BD (v:Oq) :(ZJ v).all (·.oneCell')=true:=by
 refine ZV.2 (fun u hu=>Oq.row_one v u (by simpa [ZJ] using hu))
theorem XV:(Tryz.prog.info? 37).map (·.size)=some 4:=by kernel_rfl
section
variable {H:Type} {enc:ZT × Zo→H} {w:Zc} {base:Nat} {spare:Nat→Bool} {held:Bool}
theorem Zda {n:Nat}{cs:List Zo}{x:DataW H × List MemPlace}(h:DataW.trod enc Zb w base spare held n 37 cs=some x) : ∃v:Oq,cs=v.row∧Kg v:=by
 obtain ⟨ys,n',hn',hy,hlen,hyl,hf⟩:=DataW.trod_struct Tryz.underlying37 h;have hlen:cs.length=4:=hlen.trans Yi;have hyl:ys.length=4:=hyl;have get: ∀j (f:Field),j < 4→f.offset=j→Tryz.prog.cellsOf f.type=1→DataW.trod enc Zb w base spare held n' f.type ((cs.drop f.offset).take (Tryz.prog.cellsOf f.type))=ys[j]?→ ∃v y,cs[j]?=some v∧DataW.trod enc Zb w base spare held n' f.type [v]=some y:=by
  intro j f hj ho hc ht;rw [ho,hc,List.drop_eq_getElem_cons Zp,Zf Zp] at ht;exact ⟨_,_,Zf Zp,ht⟩
 obtain ⟨v0,y0,c0,t0⟩:=get 0 _ Zp rfl Yi (hf 0 _ rfl);obtain ⟨v1,y1,c1,t1⟩:=get 1 _ Zp rfl Yi (hf 1 _ rfl);obtain ⟨v2,y2,c2,t2⟩:=get 2 _ Zp rfl Yi (hf 2 _ rfl);obtain ⟨v3,y3,c3,t3⟩:=get 3 _ Zp rfl Yi (hf 3 _ rfl);obtain ⟨x0,e0,_,w0⟩:=DataW.trod_int Yg t0;obtain ⟨x1,e1,_,w1⟩:=DataW.trod_int Yg t1;obtain ⟨x2,e2,_,w2⟩:=DataW.trod_int Yg t2;obtain ⟨x3,e3,_,w3⟩:=DataW.trod_int XA t3;injection e0 with e0; injection e1 with e1; injection e2 with e2; injection e3 with e3;subst e0 e1 e2 e3;refine ⟨⟨x0,x1,x2,x3⟩,?_,w0,w1,w2,w3⟩
 match cs,hlen with
 | [a0,a1,a2,a3],_=>
  simp at c0 c1 c2 c3;subst c0 c1 c2 c3;rfl
def iH (w:Zc)(a:Option Addr)(len cap:Nat) :Prop:=dO Oq.row 4 Kg w a len cap
end
end
end Go.Proofs.YtianiiijaopdpaaGreat
