/- Part 7 of 29: L17Rq L17Plain L13Met L13MetOps L21As L21Pm L21Oq L08Ent L08Row L08Ring L08New L08Put L06Ops L06Ref Reads L04TwoDuo L04TwoReq L16SameV. -/
import Derived.Test.YtianiiijaopdpaaGreatZy00
import Derived.Test.YtianiiijaopdpaaGreatZy04
import Derived.Test.YtianiiijaopdpaaGreatZy06
import Derived.Deep.LoopGhost
namespace Go.Proofs.YtianiiijaopdpaaGreat
set_option linter.unusedVariables false
set_option linter.unusedSimpArgs false
set_option maxRecDepth 100000
set_option maxHeartbeats 8000000
open _root_.And renaming intro → Zh
open _root_.Array renaming all_eq_true_iff_forall_mem → ZT
open _root_.Go.RowKit renaming Below → Zs
open _root_.Go.RowKit.Below renaming refl → Zp
open _root_.Go.Proofs.YtianiiijaopdpaaGreat.Blk renaming alloc → YA, cell → Yg, drew → Ko, drewN → Xy, far → JD, frozen → KG, kept → QR, new → Zv, setRow → QS, set_ → Vy
open _root_.Bool renaming eq_iff_iff → Gp
open _root_.Go.Builtin renaming zeroCells → Xb
open _root_.Go renaming Calls → Zj, Operand → Yz, Program → YO, TypeDesc → Kq, TypeId → ZN, Value → Zl, World → Zc, bodyPost_ret → ZL, execOp → Xn, run_eqGuard_agg → Kn, wpList → YY, wpList_store_row → Zo, wpQuiet → ZW, yielded → JF
open _root_.Go.Calls renaming quiet_of → Qw
open _root_.Go.Instr renaming buildSlice → Xc
open _root_.Int renaming toNat_natCast → YX
open _root_.Go.IntKind renaming wrap_u64 → KB
open _root_.Go.Proofs.YtianiiijaopdpaaGreat.Kept renaming of_below → YP, refl → ZH
open _root_.Go.Lib renaming cell?_alloc_some → QU, hid → Za
open _root_.List renaming cons_append → Yh, flatMap_cons → Jf, getElem?_append_left → Yn, getElem?_eq_getElem → Zf, getElem?_eq_some_iff → Zi, getElem?_set_ne → YB, getElem?_set_self → YN, getElem?_toArray → YL, length_append → ZE, length_cons → Yp, length_drop → Q0, map_cons → Y2, map_nil → J6, map_toArray → Q3, mem_append → YG, mem_cons → ZY, mem_cons_of_mem → Vc, mem_of_getElem? → ZB, mem_or_eq_of_mem_set → Qp, mem_singleton → YV, not_mem_nil → Yf, replicate → Zy, take_append_drop → QJ
open _root_.Go.Lit renaming int → Xg
open _root_.Nat renaming le_refl → Zg, zero_add → ZX
open _root_.Ne renaming symm → QD
open _root_.Go.Op renaming equalIn → Vo
open _root_.Option.some renaming inj → ZS
open _root_.Go.Region renaming wanted → YQ
open _root_.Go.Result renaming andThen_ok → ZQ
open _root_.Go.Sem renaming run_bind → Yi, run_pure → YC
open _root_.Go.Proofs.Tryz renaming prog → Zb, underlying206 → GI, underlying22 → Xz, underlying3 → Yc, underlying49 → Xq, underlying73 → XW, underlying75 → Z3
open _root_.Go.Value renaming cells → Yq, slice → Yj
open _root_.Go.World renaming setRow_alloc_new → Zu
theorem gG {G:Prop}(h:G:=by have:=hp.pos; omega) :G:=h
theorem TK {G H:Prop} (k:H) (h:BZ H→G:=by
  intro zk;show wpQuiet _ _ _ _ [_,_,_] _;exact zk.out) :G:=h ⟨k⟩
theorem FV {G H:Prop} (k:H) (h:BZ H→G:=by
  intro zk;show wpQuiet _ _ _ _ [_] _;exact zk.out) :G:=h ⟨k⟩
theorem ZfQ {G:Prop} (h:G:=by
  rw [B2.cell,←hp];have:=hw.get hy;have e:(f*2+(i*2+1))%(n*2)=(f+i)%n*2+1:=by
   rw [show f*2+(i*2+1)=(f+i)*2+1 by omega]
   rcases xB (N:=n) (s:=f+i) Zm with ⟨h1,h2⟩ | ⟨h1,h2⟩
   ·rw [h2,Nat.mod_eq_of_lt Zm]
   ·rw [h2,Nat.mod_eq_sub_mod Zm,Nat.mod_eq_of_lt Zm]; omega
  rw [hC,e] at this;simpa using this) :G:=h
theorem ZfT {G:Prop} (h:G:=by
  have Dv:(f*2)+Z.length≤C.length:=by have:=HC.out; omega
  have:=Al (C':=splice C (f*2) Z) HW.out ZI HC.out (length_splice _ _ _ Dv) (fun p hp=>by
   rw [Bx _ _ _ Dv]
   by_cases h1:p < (f*2)
   ·rw [if_pos h1]
   ·rw [if_neg h1,if_neg Zm])
  rw [sK.out] at this;exact this) :G:=h
theorem ZfV {G:Prop} (h:G:=by
  refine Kept.setRow (S:=fun i=>i=b∨i=g) (Kept.setCell (S:=fun i=>i=b∨i=g) (Kept.setCell (S:=fun i=>i=b∨i=g) ?_ (.inl (.inl rfl)) _) (.inl (.inl rfl)) _) (.inr (Nat.le_refl _)) _;exact (((HKW.out.more (fun _ _ h=>h.elim)).drewN nr).trans L4.out (fun _ _ h=> .inr h)).drewN q2) :G:=h
theorem Zf7 {G:Prop} (h:G:=by
  rcases j with _ | _ | j
  ·injection hv with hv; subst hv; exact Lib.cell?_alloc_some _ GS
  ·injection hv with hv; subst hv; exact Lib.cell?_alloc_some _ Ct
  ·cases hv) :G:=h
theorem Zf8 {G:Prop} (h:G:=by
  rw [Below.heap_setCell _ _ _ _ (fun e=>(h.not ht).2 (by rw [hq,e]))];exact hk.block q (h.lt (List.mem_of_getElem? ht) hq) (fun e=>h.apart _ _ _ _ q hij ht hs hq e)) :G:=h
theorem Zgl {G:Prop} (h:G:=by
  cases hi:Tryz.prog.info? 75 with
  | none=>rw [hi] at h; cases h
  | some i=>
   rw [hi] at h;simp at h;exact ⟨i,rfl,h.1,h.2.1,h.2.2⟩) :G:=h
theorem Zgn {G:Prop} (h:G:=by
  go_wp2_with fail;refine H.out.mono ?_;rintro e w1 ⟨rfl,hb⟩;have HB:=Lib.hid hb;clear hb;go_wp2_with fail;go_ret;exact ⟨rfl,HB.out⟩) :G:=h
theorem Zgv {G:Prop} (h:G:=by
  rcases hi with rfl | hi
  ·exact (hS _).2 (.inr (.inl rfl))
  ·exact (hS _).2 (.inr (.inr ⟨s,List.mem_of_getElem? hs,hi⟩))) :G:=h
theorem ZgB {G:Prop} (h:G:=by
  go_wp2_with fail;refine H.out.mono ?_;rintro e w1 ⟨rfl,m,rfl⟩;go_wp2_with fail;go_ret;exact ⟨rfl,HE.out m⟩) :G:=h
theorem ZgC {G:Prop} (h:G:=by
  go_wp2_with fail;refine H.out.mono ?_;rintro e w' ⟨rfl,m,rfl⟩;go_wp2_with fail;go_ret;exact ⟨rfl,_,rfl⟩) :G:=h
theorem ZgD {G:Prop} (h:G:=by
  rw [B2.cell,←hp];have:=hw.get hx;rw [hC,←Nat.add_mul,Nat.mul_mod_mul_right] at this;simpa using this) :G:=h
theorem ZgG {G:Prop} (h:G:=by
  have:=Blk.set_ (w:=w3) (g:=B) (t:=206) (cs:=ss.toArray) (uY.trans h.bks) j s';simpa using this) :G:=h
theorem zo {G:Prop} (h:G:=by
  rcases Nat.lt_or_ge (i*2) F.length with h | h
  ·omega
  ·rw [List.getElem?_eq_none h] at hx; cases hx) :G:=h
theorem zD {G:Prop} (h:G:=by
  have:=Int.emod_lt_of_pos ep (b:=(n:Int)) gG;omega) :G:=h
theorem rX {G:Prop} (h:G:=by
  simp [Lit.wf,IntKind.min,IntKind.max,IntKind.signed,IntKind.bits];omega) :G:=h
theorem sb {G:Prop} (h:G:=by
  exact ⟨by decide,.inl ⟨.i64,x.ix,y.ix,Tryz.underlying3,rfl,rfl⟩⟩) :G:=h
theorem zO {G:Prop} (h:G:=by
  rw [Below.heap_setCell _ _ _ _ h.ne];exact hk.block b h.own.lt FA.1) :G:=h
theorem sf {G:Prop} (h:G:=by
  have:=(List.getElem?_eq_some_iff.1 hs).1;have:=h.len;omega) :G:=h
theorem AO {G:Prop} (h:G:=by
  split
  ·omega
  ·split <;> omega) :G:=h
section
open Go Go.ChangeShapes Go.WideShapes Go.RowKit Go.Deep
structure Rq where
 ix:Int
 am:Int
deriving DecidableEq,Inhabited
def Rq.row (v:Rq) :List Zl:= [.int .i64 v.ix,.int .u64 v.am]
def ZA (v:Rq) :Array Zl:=v.row.toArray
def Ga (v:Rq) :Prop:=(Xg .i64 v.ix).wf=true∧(Xg .u64 v.am).wf=true
def L8:Rq:=⟨0,0⟩
theorem Rq.row_len (v:Rq) :v.row.length=2:=rfl
theorem Rq.row_one (v:Rq) : ∀u ∈ v.row,u.oneCell'=true:=by
 intro u hu;simp only [Rq.row,ZY,Yf,or_false] at hu
 rcases hu with rfl | rfl <;> rfl
theorem Ky (v:Rq) :(ZA v).all (·.oneCell')=true:=by
 refine ZT.2 (fun u hu=>Rq.row_one v u (by simpa [ZA] using hu))
theorem Qy:(Tryz.prog.info? 75).map (·.size)=some 2:=by kernel_rfl
theorem Zd4: ∃i,Tryz.prog.info? 75=some i∧i.zero=some (.agg (ZA L8))∧i.size=2∧i.bytes=16:=by
 have h:(Tryz.prog.info? 75).map (fun i=>(i.zero,i.size,i.bytes))=some (some (.agg (ZA L8)),2,16):=by kernel_rfl
 exact Zgl
theorem Zee (x y:Rq)(w:Zc) :(Vo 10000 75 (.agg (ZA x)) (.agg (ZA y))).run Zb w= .ok (decide (x=y)) w:=by
 obtain ⟨r,hr,L5⟩:=Bt (P:=Zb) w (ZA x) (ZA y) Z3 Ye (fun f hf=>by
  simp only [ZY,Yf,or_false] at hf
  rcases hf with rfl | rfl
  ·exact sb
  ·exact ⟨by decide,.inl ⟨.u64,x.am,y.am,Xz,rfl,rfl⟩⟩)
 refine hr.trans ?_;have:r=decide (x=y):=by
  rw [Gp,L5,decide_eq_true_eq];constructor
  ·intro h;simp only [ZY,Yf,or_false,forall_eq_or_imp,forall_eq] at h;obtain ⟨h0,h1⟩:=h;obtain ⟨a0,a1⟩:=x;obtain ⟨b0,b1⟩:=y;simp [ZA,Rq.row] at h0 h1;simp [*]
  ·rintro rfl;simp
 rw [this]
theorem kB {a:Act}{dst:Option Tmp}{yt ty:ZN}{x y:Yz}{pos:String}{after:Array Edge}{guard:Option (Nat × Bool)}{w:Zc}{p q:Rq}{r:Bool}(hx:a.eval x= .agg (ZA p))(hy:a.eval y= .agg (ZA q))(hr:decide (p=q)=r) :
  (Xn a.eval { dst,op:= .binOp .eql 75 x y yt,type:=ty,pos,after,guard}).run Zb w= .ok (.value (.bool r)) w:=by
 simp only [Xn,hx,hy,Yi,Kn w .eql _ x y _ _ (show Tryz.prog.eqGuardType Tryz.prog.depth 75=false by kernel_rfl),ZQ,run_eql_struct,Zee p q w,YC,hr]
theorem kE {a:Act}{dst:Option Tmp}{yt ty:ZN}{x y:Yz}{pos:String}{after:Array Edge}{guard:Option (Nat × Bool)}{w:Zc}{p q:Rq}{r:Bool}(hx:a.eval x= .agg (ZA p))(hy:a.eval y= .agg (ZA q))(hr:(!decide (p=q))=r) :
  (Xn a.eval { dst,op:= .binOp .neq 75 x y yt,type:=ty,pos,after,guard}).run Zb w= .ok (.value (.bool r)) w:=by
 simp only [Xn,hx,hy,Yi,Kn w .neq _ x y _ _ (show Tryz.prog.eqGuardType Tryz.prog.depth 75=false by kernel_rfl),ZQ,run_neq_struct,Zee p q w,YC,hr]
theorem ZbW {C:Zc→Prop}{Qa:Act→Prop}{ops:Array Oper}{rest:List Oper}{a:Act}{dst:Option Tmp}{yt ty:ZN}{x y:Yz}{pos:String}{after:Array Edge}{guard:Option (Nat × Bool)}(p q:Rq)(r:Bool)(hw:YQ { dst,op:= .binOp .eql 75 x y yt,type:=ty,pos,after,guard} (JF ops a.tmps)=true)(hx:a.eval x= .agg (ZA p))(hy:a.eval y= .agg (ZA q))(hr:decide (p=q)=r)
  (h:ZW Zb ops C Qa rest (a.put dst (.bool r))) :ZW Zb ops C Qa ({ dst,op:= .binOp .eql 75 x y yt,type:=ty,pos,after,guard}::rest) a:=
 Gm (.bool r) hw (fun w=>kB hx hy hr) h
theorem qN {C:Zc→Prop}{Qa:Act→Prop}{ops:Array Oper}{rest:List Oper}{a:Act}{dst:Option Tmp}{yt ty:ZN}{x y:Yz}{pos:String}{after:Array Edge}{guard:Option (Nat × Bool)}(p q:Rq)(r:Bool)(hw:YQ { dst,op:= .binOp .neq 75 x y yt,type:=ty,pos,after,guard} (JF ops a.tmps)=true)(hx:a.eval x= .agg (ZA p))(hy:a.eval y= .agg (ZA q))(hr:(!decide (p=q))=r)
  (h:ZW Zb ops C Qa rest (a.put dst (.bool r))) :ZW Zb ops C Qa ({ dst,op:= .binOp .neq 75 x y yt,type:=ty,pos,after,guard}::rest) a:=
 Gm (.bool r) hw (fun w=>kE hx hy hr) h
section
variable {P:YO} {ops:Array Oper} {rest:List Oper} {op:Oper} {a:Act} {w:Zc} {Q:Exit→Act→Zc→Prop}
theorem TC (DV:op.guard=none)(ty:ZN)(x:Yz)(ho:op.op= .load ty x)
  (b o:Nat) (hx:a.eval x= .pointer (some ⟨b,o,none⟩)) (v:Rq) (d:Kq) (hc:w.rangeAt b o v.row)
  (hu:P.underlying ty=some d) (hd:d.isRow=true) (hi:(P.info? ty).map (·.size)=some 2)
  (h:YY P ops Q rest (a.put op.dst (.agg (ZA v))) w) :YY P ops Q (op::rest) a w:=
 wpList_load_mid DV ty x ho b o hx v.row d hc hu hd hi h
theorem LP {C:Zc→Prop}{Qa:Act→Prop}(ty:ZN)(x:Yz)(b o:Nat)(v:Rq)(d:Kq)(hw:YQ op (JF ops a.tmps)=true)(ho:op.op= .load ty x)(hx:a.eval x= .pointer (some ⟨b,o,none⟩))
  (hC: ∀w,C w→w.rangeAt b o v.row) (hu:P.underlying ty=some d) (hd:d.isRow=true) (hi:(P.info? ty).map (·.size)=some 2)
  (h:ZW P ops C Qa rest (a.put op.dst (.agg (ZA v)))) :ZW P ops C Qa (op::rest) a:=by
 exact sE
theorem PS (hg:op.guard=none)(t:ZN)(parts:Array (Nat × Yz))(ho:op.op= .build t parts)(v:Rq)
  (hf:P.built t (parts.map fun (i,x)=>(i,a.eval x)).toList=some (ZA v)) (h:YY P ops Q rest (a.put op.dst (.agg (ZA v))) w) :YY P ops Q (op::rest) a w:=
 wpList_build hg t parts ho (by rw [hf]; rfl) Io
end
theorem lZ (x:Rq)(w:Zc) :(Xc 49 1 #[(0,.agg (ZA x))]).run Zb w= .ok (.slice (some ⟨w.heap.size,0,none⟩) 1 1) (w.alloc (.cells (ZA x) 75)):=by
 obtain ⟨i,hi,hz,hs,LJ⟩:=Zd4;simp [Xc,run_underlying Xq,sizeOf,typeInfo,hi,hz,hs,Instr.fill,newRow,go_sem,ZA,Rq.row]
theorem rG {o:Oper}{a:Act}{w:Zc}{K:Act→Zc→Prop}{Q:Exit→Act→Zc→Prop}(x:Yz)(p:Rq)(ho:o.op= .buildSlice 49 1 #[(0,x)])(hx:a.eval x= .agg (ZA p))
  (h:K (a.put o.dst (.slice (some ⟨w.heap.size,0,none⟩) 1 1)) (w.alloc (.cells (ZA p) 75))) :o.wp Zb a w K Q:=by
 unfold Oper.wp Xn;simp only [ho,Q3,Y2,J6,hx,Yi,lZ p w,ZQ,YC];exact h
end
section
def Uz (r:Rq)(n:Nat) :Bool:=decide (0≤r.ix∧r.ix < n)
def Ob (l:List Yd)(r:Rq) :Int:=if Uz r l.length=false then 7 else if r.am=0 then 3 else if(l.getD r.ix.toNat ZZ).st≠2 then 8 else 0
def Bc (v:Yd)(mb:Int) :Int:=if v.st≠2 then 0 else if v.sl=true then 0 else if mb < v.bal then v.bal - mb else 0
def DC (v:Yd)(x mb:Int) :Int:=if Bc v mb < x then Bc v mb else x
def Mx (v:Yd)(x mb:Int) :Yd:= { v with bal:=v.bal - DC v x mb}
def NB (l:List Yd)(r:Rq)(mb:Int) :Int:=if Uz r l.length=true then DC (l.getD r.ix.toNat ZZ) r.am mb else 0
def EZ (l:List Yd)(r:Rq)(mb:Int) :List Yd:=if Uz r l.length=true then l.set r.ix.toNat (Mx (l.getD r.ix.toNat ZZ) r.am mb) else l
def Le (i x:Int) :List Py:=if x=0 then [] else [⟨i,x,false⟩]
def XQ (mb:Int) :List Yd→List Rq→List Yd
 | l,[]=>l
 | l,r::q=>XQ mb (EZ l r mb) q
def Ks (mb:Int) :List Yd→List Rq→List Py
 | _,[]=> []
 | l,r::q=>Le r.ix (NB l r mb)++Ks mb (EZ l r mb) q
theorem A5 {v:Yd}{mb:Int}(hv:Yo v)(hm:0≤mb) :0≤Bc v mb∧Bc v mb≤v.bal:=by
 have:=hv.bal;unfold Bc
 split
 ·omega
 ·exact AO
theorem Ea {v:Yd}{x mb:Int}(hv:Yo v)(hm:0≤mb)(hx:0≤x) :0≤DC v x mb∧DC v x mb≤v.bal∧DC v x mb≤Bc v mb∧DC v x mb≤x:=by
 have:=A5 hv hm;unfold DC
 split <;> omega
theorem nG {v:Yd}{x mb:Int}(hv:Yo v)(hm:0≤mb)(hx:0≤x) :Yo (Mx v x mb):=by
 have h:=Ea hv hm hx;have hb:=hv.bal;refine ⟨?_,hv.2⟩;simp only [Mx];exact rX
theorem aQ {l:List Yd}{r:Rq}(h:Uz r l.length=true) : ∃(i:Nat) (v:Yd),r.ix=(i:Int)∧l[i]?=some v:=by
 have h':0≤r.ix∧r.ix < l.length:=of_decide_eq_true h;exact ⟨r.ix.toNat,l[r.ix.toNat]'Zm,by omega,Zf _⟩
theorem fi {l:List Yd}{r:Rq}{i:Nat}{v:Yd}(mb:Int)(hi:r.ix=(i:Int))(hv:l[i]?=some v) :Uz r l.length=true∧NB l r mb=DC v r.am mb∧EZ l r mb=l.set i (Mx v r.am mb):=by
 have hl:=(Zi.1 hv).1;have h:Uz r l.length=true:=decide_eq_true Zm;refine ⟨h,?_,?_⟩
 ·rw [NB,if_pos h,hi,YX,VT hv]
 ·rw [EZ,if_pos h,hi,YX,VT hv]
theorem vY (l:List Yd)(r:Rq)(mb:Int) :(EZ l r mb).length=l.length:=by unfold EZ; split <;> simp
theorem De (mb:Int)(q:List Rq) : ∀l,(XQ mb l q).length=l.length:=by
 induction q with
 | nil=>intro l; rfl
 | cons p q ih=>intro l; rw [XQ,ih,vY]
theorem wA (i x:Int) :(Le i x).length≤1:=by unfold Le; split <;> simp
theorem OD (mb:Int)(q:List Rq) : ∀l,(Ks mb l q).length≤q.length:=by
 induction q with
 | nil=>intro l; simp [Ks]
 | cons p q ih=>intro l; simp only [Ks,ZE,Yp]; have:=ih (EZ l p mb); have:=wA p.ix (NB l p mb); omega
theorem Wq (mb:Int)(r:Rq)(q:List Rq) : ∀l,XQ mb l (q++[r])=EZ (XQ mb l q) r mb:=by
 induction q with
 | nil=>intro l; rfl
 | cons x q ih=>intro l; simp only [Yh,XQ,ih]
theorem fV (mb:Int)(r:Rq)(q:List Rq) : ∀l,Ks mb l (q++[r])=Ks mb l q++Le r.ix (NB (XQ mb l q) r mb):=by
 induction q with
 | nil=>intro l; simp [Ks,XQ]
 | cons x q ih=>intro l; simp only [Yh,XQ,Ks,ih,List.append_assoc]
theorem Mt {α:Type}{q:List α}{k:Nat}{p:α}(h:q[k]?=some p) :q.take (k+1)=q.take k++[p]:=by rw [List.take_add_one,h]; rfl
theorem bL {l:List Yd}{r:Rq}{mb:Int}(hm:0≤mb)(hr:0≤r.am)(h: ∀v ∈ l,Yo v) : ∀v ∈ EZ l r mb,Yo v:=by
 unfold EZ
 split
 ·rename_i hb
  obtain ⟨i,v,hi,hv⟩:=aQ hb;rw [hi,YX,VT hv];intro u hu
  rcases Qp hu with h1 | h1
  ·exact h u h1
  ·exact h1▸nG (h v (ZB hv)) hm hr
 ·exact h
theorem Ga.am {r:Rq}(h:Ga r) :0≤r.am∧r.am≤18446744073709551615:=bounds_u64 h.2
theorem Ex (mb:Int)(hm:0≤mb)(q:List Rq) : ∀(l:List Yd),(∀r ∈ q,Ga r)→(∀v ∈ l,Yo v)→ ∀v ∈ XQ mb l q,Yo v:=by
 induction q with
 | nil=>intro l _ h; exact h
 | cons r q ih=>
  intro l hq h;rw [XQ];exact ih _ (fun x hx=>hq x Bj) (bL hm (hq r ZI).am.1 h)
def UE (c:Nat→Int)(q:List Rq) :Nat:=min (c 16).toNat q.length
def KT (i:Nat) :List Py→Int
 | []=>0
 | p::ps=>(if p.ix=(i:Int) then p.am else 0)+KT i ps
theorem Ev (i:Nat)(a b:List Py) :KT i (a++b)=KT i a+KT i b:=by
 induction a with
 | nil=>simp [KT]
 | cons p a ih=>simp only [Yh,KT,ih]; omega
theorem Mq (i:Nat){ps:List Py}(h: ∀p ∈ ps,0≤p.am) :0≤KT i ps:=by
 induction ps with
 | nil=>simp [KT]
 | cons p ps ih=>
  have h1:=h p ZI;have h2:=ih (fun x hx=>h x Bj);simp only [KT]
  split <;> omega
theorem Pd (i:Nat){ps:List Py}(h: ∀p ∈ ps,0 < p.am)(j:Nat) :0≤KT i (ps.take j)∧KT i (ps.take j)≤KT i ps:=by
 have h1:=Mq i (ps:=ps.take j) (fun p hp=>Int.le_of_lt (h p (List.mem_of_mem_take hp)));have h2:=Mq i (ps:=ps.drop j) (fun p hp=>Int.le_of_lt (h p (List.mem_of_mem_drop hp)));have h3:=Ev i (ps.take j) (ps.drop j);rw [QJ] at h3;omega
theorem bK (i:Nat){ps:List Py}{j:Nat}{p:Py}(h:ps[j]?=some p) :KT i (ps.take (j+1))=KT i (ps.take j)+if p.ix=(i:Int) then p.am else 0:=by
 rw [Mt h,Ev];simp [KT]
theorem fc (i:Nat)(j x:Int) :KT i (Le j x)=if j=(i:Int) then x else 0:=by
 unfold Le
 split
 ·rename_i h; subst h; simp [KT]
 ·simp [KT]
def AW (mb:Int)(v v':Yd)(x:Int) :Prop:=v'= { v with bal:=v.bal - x}∧0≤x∧(x=0∨(v.st=2∧v.sl=false∧mb≤v.bal - x))
theorem qz {v:Yd}{x mb:Int}(hv:Yo v)(hm:0≤mb)(hx:0≤x) :AW mb v (Mx v x mb) (DC v x mb):=by
 refine ⟨rfl,(Ea hv hm hx).1,?_⟩;have h:=(Ea hv hm hx)
 by_cases h0:DC v x mb=0
 ·exact .inl h0
 ·refine .inr ?_;have ha:Bc v mb≠0:=by omega
  unfold Bc at ha;have hb:=h.2.2.1;unfold Bc at hb
  split at ha
  ·omega
  ·rename_i h1
   split at ha
   ·omega
   ·rename_i h2
    split at ha
    ·rename_i h3
     rw [if_neg h1,if_neg h2,if_pos h3] at hb;exact ⟨by simpa using h1,by simpa using h2,by omega⟩
    ·omega
theorem AW.trans {mb:Int}{a b c:Yd}{x y:Int}(h:AW mb a b x)(k:AW mb b c y) :AW mb a c (x+y):=by
 obtain ⟨rfl,h1,h2⟩:=h;obtain ⟨rfl,k1,k2⟩:=k;refine ⟨by simp [Int.sub_sub],by omega,?_⟩;simp only at k2
 rcases k2 with k2 | ⟨k2,k3,k4⟩
 ·subst k2
  rcases h2 with h2 | ⟨h2,h3,h4⟩
  ·exact .inl Zm
  ·exact .inr ⟨h2,h3,by omega⟩
 ·exact .inr ⟨k2,k3,by omega⟩
theorem AW.zero {mb:Int}(v:Yd) :AW mb v v 0:=⟨by simp,Int.le_refl _,.inl rfl⟩
theorem DH (mb:Int)(hm:0≤mb)(q:List Rq) : ∀(l:List Yd),(∀r ∈ q,Ga r)→(∀v ∈ l,Yo v)→
  (∀i v,l[i]?=some v→ ∃v',(XQ mb l q)[i]?=some v'∧AW mb v v' (KT i (Ks mb l q)))∧
  ∀p ∈ Ks mb l q,0 < p.am∧p.fu=false∧ ∃(i:Nat) (v:Yd),p.ix=(i:Int)∧l[i]?=some v∧v.st=2∧v.sl=false:=by
 induction q with
 | nil=>exact fun l _ _=>⟨fun i v hv=>⟨v,hv,AW.zero v⟩,fun p hp=>by simp [Ks] at hp⟩
 | cons r q ih=>
  intro l hq hl;have hr:=(hq r ZI).am;have kV: ∀x ∈ q,Ga x:=fun x hx=>hq x Bj
  obtain ⟨i1,i2⟩:=ih (EZ l r mb) kV (bL hm hr.1 hl)
  by_cases hb:Uz r l.length=true
  ·obtain ⟨k,u,hk,hu⟩:=aQ hb;obtain ⟨_,e1,e2⟩:=fi mb hk hu;have mS:=(Zi.1 hu).1;have P1:=qz (hl u (ZB hu)) hm hr.1;simp only [XQ,Ks];rw [e2] at i1 i2 ⊢;rw [e1];refine ⟨fun i v hv=>?_,fun p hp=>?_⟩
   ·rw [Ev,fc]
    by_cases sV:i=k
    ·subst sV;rw [hu] at hv;injection hv with hv;subst hv;rw [if_pos hk];obtain ⟨v',g1,g2⟩:=i1 i (Mx u r.am mb) (by rw [YN mS]);exact ⟨v',g1,P1.trans g2⟩
    ·rw [if_neg Zm];obtain ⟨v',g1,g2⟩:=i1 i v (by rw [YB (QD sV)]; exact hv);refine ⟨v',g1,?_⟩;rw [Int.zero_add];exact g2
   ·rcases YG.1 hp with hp | hp
    ·unfold Le at hp
     split at hp
     ·cases hp
     ·rename_i h0
      rw [YV] at hp;subst hp;refine ⟨by have:=P1.2.1; simp only; omega,rfl,k,u,hk,hu,?_⟩
      rcases P1.2.2 with h | h
      ·omega
      ·exact ⟨h.1,h.2.1⟩
    ·obtain ⟨h1,h2,i,v,h3,h4,h5,h6⟩:=i2 p hp;refine ⟨h1,h2,i,?_⟩
     by_cases sV:i=k
     ·subst sV;rw [YN mS] at h4;injection h4 with h4;subst h4;exact ⟨u,h3,hu,h5,h6⟩
     ·rw [YB (QD sV)] at h4;exact ⟨v,h3,h4,h5,h6⟩
  ·have e2:EZ l r mb=l:=by unfold EZ; rw [if_neg hb]
   have e1:NB l r mb=0:=by unfold NB; rw [if_neg hb]
   simp only [XQ,Ks];rw [e2] at i1 i2 ⊢;rw [e1,show Le r.ix 0=[] from rfl,List.nil_append];exact ⟨i1,i2⟩
end
section
open Go.RowKit
def Oj (B T D:Int) :Int:=(B+T+D)%18446744073709551616
def nK (T S:Int) :Int:=(T - S)%18446744073709551616
def Vd (w:Zc)(b:Nat)(B S T D:Int) :Prop:=Blk w b 202 #[.int .u64 (Oj B T D),.int .u64 T,.int .u64 D,.int .u64 (nK T S)]
def Jq (B S T D:Int) :Prop:=0≤B∧0≤S∧B+S≤18446744073709551615∧0≤T∧T≤18446744073709551615∧0≤D∧D≤18446744073709551615
section
variable {w w':Zc} {b d:Nat} {B S T D x:Int}
theorem Vd.cells (h:Vd w b B S T D) :w.cell? ⟨b,0,none⟩=some (.int .u64 (Oj B T D))∧w.cell? ⟨b,1,none⟩=some (.int .u64 T)∧w.cell? ⟨b,2,none⟩=some (.int .u64 D)∧w.cell? ⟨b,3,none⟩=some (.int .u64 (nK T S)):=
 ⟨Yg h 0,Yg h 1,Yg h 2,Yg h 3⟩
theorem wD (hF:Jq B S T D) : ∃A,IntKind.u64.wrap (Oj B T D - T)=A∧IntKind.u64.wrap (A - D)=B:=by
 refine ⟨_,rfl,?_⟩;obtain ⟨f0,f1,f2,f3,f4,f5,f6⟩:=hF;simp only [KB,Oj];omega
theorem xk (hF:Jq B S T D)(x0:0≤x)(hx:x≤B) : ∃T',IntKind.u64.wrap (T+x)=T'∧Jq (B - x) (S+x) T' D∧Oj (B - x) T' D=Oj B T D∧nK T' (S+x)=nK T S:=by
 refine ⟨_,rfl,?_⟩;obtain ⟨f0,f1,f2,f3,f4,f5,f6⟩:=hF;simp only [KB,nK,Oj,Jq];omega
theorem uF (hF:Jq B S T D) : ∃D',IntKind.u64.wrap (D+B)=D'∧Jq 0 S T D'∧Oj 0 T D'=Oj B T D:=by
 refine ⟨_,rfl,?_⟩;obtain ⟨f0,f1,f2,f3,f4,f5,f6⟩:=hF;simp only [KB,Oj,Jq];omega
theorem oW (hF:Jq B S T D)(x0:0≤x) : ∃p,(if 18446744073709551615 - B < x then 18446744073709551615 - B else x)=p∧IntKind.u64.wrap (Oj B T D+p)=Oj (B+p) T D∧Jq (B+p) 0 T D∧nK T 0=T∧0≤p:=by
 refine ⟨_,rfl,?_⟩;obtain ⟨f0,f1,f2,f3,f4,f5,f6⟩:=hF;simp only [KB,Oj,nK,Jq]
 split <;> omega
theorem Vd.range (h:Vd w b B S T D) :w.rangeAt b 0 [.int .u64 (Oj B T D),.int .u64 T,.int .u64 D]:=by
 exact Zf6
end
theorem Fa (b:Nat)(B S T D:Int)(w:Zc)(h:Vd w b B S T D)(hF:Jq B S T D) :
  Zj Zb 114 #[.pointer (some ⟨b,0,none⟩)] w fun e w'=>e= .returned (.int .u64 B)∧ ∃m,w'=w.drewN m:=by
 obtain ⟨c0,c1,c2,c3⟩:=h.cells;obtain ⟨A,eA,eB⟩:=wD hF;clear h hF c3;generalize Oj B T D=G at*;go_enter Tryz.func114,Tryz.ntmps114;go_wp2;go_quiet (skip);exact jF
theorem RI (b:Nat)(B S T D:Int)(w:Zc)(h:Vd w b B S T D)(hF:Jq B S T D) :
  Zj Zb 62 #[.pointer (some ⟨b,0,none⟩)] w fun e w'=>e= .returned (.int .u64 B)∧ ∃m,w'=w.drewN m:=by
 have H:=Za (Fa b B S T D w h hF);clear h hF;go_enter Tryz.func62,Tryz.ntmps62;exact ZgC
theorem eU (w:Zc) :
  Zj Zb 77 #[] w fun e w'=>e= .returned (.pointer (some ⟨w.heap.size,0,none⟩))∧w.alloc (.cells #[.int .u64 0,.int .u64 0,.int .u64 0,.int .u64 0] 202)=w':=by
 go_enter Tryz.func77,Tryz.ntmps77;exact UI
theorem kI:Jq 0 0 0 0:=by unfold Jq; omega
end
section
open Go.RowKit
theorem xn (b:Nat)(B S T D x:Int)(w:Zc)(h:Vd w b B S T D)(hF:Jq B S T D)(hx:x>B) :
  Zj Zb 290 #[.pointer (some ⟨b,0,none⟩),.int .u64 x] w fun e w'=>e= .returned (.bool false)∧ ∃m,w'=w.drewN m:=by
 have H:=Za (Fa b B S T D w h hF);clear h hF;go_enter Tryz.func290,Tryz.ntmps290;exact ZgC
theorem rn (b:Nat)(B S T D T' x:Int)(w:Zc)(h:Vd w b B S T D)(hF:Jq B S T D)(hx:x≤B)(hT:IntKind.u64.wrap (T+x)=T')(hG:Oj (B - x) T' D=Oj B T D)(hb:nK T' (S+x)=nK T S) :
  Zj Zb 290 #[.pointer (some ⟨b,0,none⟩),.int .u64 x] w fun e w'=>e= .returned (.bool true)∧Vd w' b (B - x) (S+x) T' D∧w.grownBy w' (some b):=by
 have H:=Za (Fa b B S T D w h hF);obtain ⟨c0,c1,c2,c3⟩:=h.cells;have z1:=KG h 1;have HE:Hid (∀m,Vd ((w.drewN m).setCell ⟨b,1,none⟩ (.int .u64 T')) b (B - x) (S+x) T' D∧w.grownBy ((w.drewN m).setCell ⟨b,1,none⟩ (.int .u64 T')) (some b)):=Za (fun m=>⟨by unfold Vd; rw [hG,hb]; exact Vy (Xy h m) 1 _,QN (VW (J2 _ _) m) (.inl rfl) _⟩);clear h hF hG hb c0 c2 c3;go_enter Tryz.func290,Tryz.ntmps290;exact ZgB
theorem ow (b:Nat)(B S T D D':Int)(w:Zc)(h:Vd w b B S T D)(hF:Jq B S T D)(hD:IntKind.u64.wrap (D+B)=D')(hG:Oj 0 T D'=Oj B T D) :
  Zj Zb 292 #[.pointer (some ⟨b,0,none⟩)] w fun e w'=>e= .returned (.int .u64 B)∧Vd w' b 0 S T D'∧w.grownBy w' (some b):=by
 have H:=Za (Fa b B S T D w h hF);obtain ⟨c0,c1,c2,c3⟩:=h.cells;have z1:=KG h 2;have HE:Hid (∀m,Vd ((w.drewN m).setCell ⟨b,2,none⟩ (.int .u64 D')) b 0 S T D'∧w.grownBy ((w.drewN m).setCell ⟨b,2,none⟩ (.int .u64 D')) (some b)):=Za (fun m=>⟨by unfold Vd; rw [hG]; exact Vy (Xy h m) 2 _,QN (VW (J2 _ _) m) (.inl rfl) _⟩);clear h hF hG c0 c1 c3;go_enter Tryz.func292,Tryz.ntmps292;exact ZgB
theorem kK (b:Nat)(B S T D x p:Int)(w:Zc)(h:Vd w b B S T D)(hF:Jq B S T D)(hp:(if 18446744073709551615 - B < x then 18446744073709551615 - B else x)=p)(hG:IntKind.u64.wrap (Oj B T D+p)=Oj (B+p) T D)(hN:Jq (B+p) 0 T D)(hb:nK T 0=T) :
  Zj Zb 288 #[.pointer (some ⟨b,0,none⟩),.int .u64 x] w fun e w'=>e= .returned (.int .u64 (B+p))∧Vd w' b (B+p) 0 T D∧w.grownBy w' (some b):=by
 have HF:=Za hF;have HH:=Za h;have HP:=Za hp;have pr:Hid (∀(w1:Zc),Vd w1 b (B+p) 0 T D→Zj Zb 114 #[.pointer (some ⟨b,0,none⟩)] w1 fun e w'=>e= .returned (.int .u64 (B+p))∧ ∃m,w'=w1.drewN m):=Za (fun w1 h1=>Fa b (B+p) 0 T D w1 h1 hN);have f0:=hF.1;have f1:B≤18446744073709551615:=by have:=hF.2.1; have:=hF.2.2.1; omega
 generalize hq:B+p=q at*;clear hq hp hF hN h;go_enter Tryz.func288,Tryz.ntmps288;go_wp2;refine M0 (fun w'=>Vd w' b B S T D) 13 4 [0,1,2,3,4,5,6,7,8] (Ko HH.out) ?_;refine Kg ?_;refine mD ?_;refine BN ?_;refine YJ 22 _ _ (.int .u64 (Oj B T D)) rfl rfl rfl (fun w h=>by simp [go_sem,h]) (fun w h=>Yg h 0) ?_;refine Qe ?_;refine BN ?_;refine Qc ?_;refine hfO (i:=9) ?_;refine JZ #[.pointer (some ⟨b,0,none⟩)] Tryz.call114 ((Fa b B S T D _ (Ko HH.out) HF.out).mono ?_);rintro e w1 ⟨rfl,m,PK⟩;have M1:Hid (Vd w1 b B S T D):=Za (PK▸Xy (Ko HH.out) m);have G1:Hid (w.grownBy w1 (some b)):=Za (PK▸VW (Ah (J2 _ _)) m);clear PK;refine ⟨_,rfl,M1.out,?_⟩;refine Dg ?_;refine hfT (fun w'=>Vd w' b B S T D) (m:=3) (f:=0) [10,11,12] M1.out ?_;refine Kg ?_;refine TK ?_;refine DP ?_;refine Qc ?_;refine Bn ?_;refine ⟨by kernel_rfl,?_⟩;try rw [Rb]
 rw [HP.out];refine LY ?_;have g1:w.grownBy (w1.setCell ⟨b,0,none⟩ (.int .u64 (Oj q T D))) (some b):=QN G1.out (.inl rfl) _;have g2:w.grownBy ((w1.setCell ⟨b,0,none⟩ (.int .u64 (Oj q T D))).setCell ⟨b,3,none⟩ (.int .u64 T)) (some b):=QN g1 (.inl rfl) _;have H2:Hid (Vd ((w1.setCell ⟨b,0,none⟩ (.int .u64 (Oj q T D))).setCell ⟨b,3,none⟩ (.int .u64 T)) b q 0 T D∧w.grownBy ((w1.setCell ⟨b,0,none⟩ (.int .u64 (Oj q T D))).setCell ⟨b,3,none⟩ (.int .u64 T)) (some b)):=
  Za ⟨by unfold Vd; rw [hb]; exact Vy (Vy M1.out 0 _) 3 _,g2⟩
 have c0:w1.cell? ⟨b,0,none⟩=some (.int .u64 (Oj B T D)):=Yg M1.out 0;have c3:w1.cell? ⟨b,3,none⟩=some (.int .u64 (nK T S)):=Yg M1.out 3;have c1:w1.cell? ⟨b,1,none⟩=some (.int .u64 T):=Yg M1.out 1;have z0:w1.frozen? ⟨b,0,none⟩=false:=KG M1.out 0;have z3:w1.frozen? ⟨b,3,none⟩=false:=KG M1.out 3;clear hb g1 g2;go_wp2;refine GM ?_;go_wp2_with fail;refine (pr.out _ H2.out.1).mono ?_;rintro e w2 ⟨rfl,m2,rfl⟩;go_wp2_with fail;go_ret;exact ⟨rfl,Xy H2.out.1 _,VW H2.out.2 _⟩
end
section
open Go Go.ChangeShapes Go.WideShapes Go.RowKit Go.Deep
structure As where
 ix:Int
 cl:Int
 ep:Int
deriving DecidableEq,Inhabited
def As.row (v:As) :List Zl:= [.int .i64 v.ix,.int .i64 v.cl,.int .i64 v.ep]
def Qm (v:As) :Array Zl:=v.row.toArray
theorem As.row_len (v:As) :v.row.length=3:=rfl
theorem As.row_one (v:As) : ∀u ∈ v.row,u.oneCell'=true:=by
 intro u hu;simp only [As.row,ZY,Yf,or_false] at hu;exact jD
theorem IZ (v:As) :(Qm v).all (·.oneCell')=true:=by
 refine ZT.2 (fun u hu=>As.row_one v u (by simpa [Qm] using hu))
theorem Cu:(Tryz.prog.info? 71).map (·.size)=some 3:=by kernel_rfl
theorem Zim (x y:As)(w:Zc) :(Vo 10000 71 (.agg (Qm x)) (.agg (Qm y))).run Zb w= .ok (decide (x=y)) w:=by
 obtain ⟨r,hr,L5⟩:=Bt (P:=Zb) w (Qm x) (Qm y) Tryz.underlying71 Ye (fun f hf=>by
  simp only [ZY,Yf,or_false] at hf
  rcases hf with rfl | rfl | rfl
  ·exact sb
  ·exact ⟨by decide,.inl ⟨.i64,x.cl,y.cl,Yc,rfl,rfl⟩⟩
  ·exact ⟨by decide,.inl ⟨.i64,x.ep,y.ep,Yc,rfl,rfl⟩⟩)
 refine hr.trans ?_;have:r=decide (x=y):=by
  rw [Gp,L5,decide_eq_true_eq];constructor
  ·intro h;simp only [ZY,Yf,or_false,forall_eq_or_imp,forall_eq] at h;obtain ⟨h0,h1,h2⟩:=h;obtain ⟨a0,a1,a2⟩:=x;obtain ⟨b0,b1,b2⟩:=y;simp [Qm,As.row] at h0 h1 h2;simp [*]
  ·rintro rfl;simp
 rw [this]
theorem kC {a:Act}{dst:Option Tmp}{yt ty:ZN}{x y:Yz}{pos:String}{after:Array Edge}{guard:Option (Nat × Bool)}{w:Zc}{p q:As}{r:Bool}(hx:a.eval x= .agg (Qm p))(hy:a.eval y= .agg (Qm q))(hr:(!decide (p=q))=r) :
  (Xn a.eval { dst,op:= .binOp .neq 71 x y yt,type:=ty,pos,after,guard}).run Zb w= .ok (.value (.bool r)) w:=by
 simp only [Xn,hx,hy,Yi,Kn w .neq _ x y _ _ (show Tryz.prog.eqGuardType Tryz.prog.depth 71=false by kernel_rfl),ZQ,run_neq_struct,Zim p q w,YC,hr]
theorem ZbX {C:Zc→Prop}{Qa:Act→Prop}{ops:Array Oper}{rest:List Oper}{a:Act}{dst:Option Tmp}{yt ty:ZN}{x y:Yz}{pos:String}{after:Array Edge}{guard:Option (Nat × Bool)}(p q:As)(r:Bool)(hw:YQ { dst,op:= .binOp .neq 71 x y yt,type:=ty,pos,after,guard} (JF ops a.tmps)=true)(hx:a.eval x= .agg (Qm p))(hy:a.eval y= .agg (Qm q))(hr:(!decide (p=q))=r)
  (h:ZW Zb ops C Qa rest (a.put dst (.bool r))) :ZW Zb ops C Qa ({ dst,op:= .binOp .neq 71 x y yt,type:=ty,pos,after,guard}::rest) a:=
 Gm (.bool r) hw (fun w=>kC hx hy hr) h
section
variable {P:YO} {ops:Array Oper} {rest:List Oper} {op:Oper} {a:Act} {w:Zc} {Q:Exit→Act→Zc→Prop}
theorem Am {C:Zc→Prop}{Qa:Act→Prop}(ty:ZN)(x:Yz)(b o:Nat)(v:As)(d:Kq)(hw:YQ op (JF ops a.tmps)=true)(ho:op.op= .load ty x)(hx:a.eval x= .pointer (some ⟨b,o,none⟩))
  (hC: ∀w,C w→w.rangeAt b o v.row) (hu:P.underlying ty=some d) (hd:d.isRow=true) (hi:(P.info? ty).map (·.size)=some 3)
  (h:ZW P ops C Qa rest (a.put op.dst (.agg (Qm v)))) :ZW P ops C Qa (op::rest) a:=by
 exact sE
end
end
section
open Go Go.ChangeShapes Go.WideShapes Go.RowKit Go.Deep
structure Pm where
 ix:Int
 am:Int
 fl:Bool
deriving DecidableEq,Inhabited
def Pm.row (v:Pm) :List Zl:= [.int .i64 v.ix,.int .u64 v.am,.bool v.fl]
def Jk (v:Pm) :Array Zl:=v.row.toArray
def pmZ:Pm:=⟨0,0,false⟩
theorem Pm.row_len (v:Pm) :v.row.length=3:=rfl
theorem Pm.row_one (v:Pm) : ∀u ∈ v.row,u.oneCell'=true:=by
 intro u hu;simp only [Pm.row,ZY,Yf,or_false] at hu;exact jD
theorem On:(Tryz.prog.info? 61).map (·.size)=some 3:=by kernel_rfl
theorem Zd3: ∃i,Tryz.prog.info? 61=some i∧i.zero=some (.agg (Jk pmZ))∧i.size=3∧i.bytes=24:=by
 have h:(Tryz.prog.info? 61).map (fun i=>(i.zero,i.size,i.bytes))=some (some (.agg (Jk pmZ)),3,24):=by kernel_rfl
 exact Zgk
theorem Zin (x y:Pm)(w:Zc) :(Vo 10000 61 (.agg (Jk x)) (.agg (Jk y))).run Zb w= .ok (decide (x=y)) w:=by
 obtain ⟨r,hr,L5⟩:=Bt (P:=Zb) w (Jk x) (Jk y) Tryz.underlying61 Ye (fun f hf=>by
  simp only [ZY,Yf,or_false] at hf
  rcases hf with rfl | rfl | rfl
  ·exact sb
  ·exact ⟨by decide,.inl ⟨.u64,x.am,y.am,Xz,rfl,rfl⟩⟩
  ·exact ⟨by decide,.inr (.inl ⟨x.fl,y.fl,Tryz.underlying4,rfl,rfl⟩)⟩)
 refine hr.trans ?_;have:r=decide (x=y):=by
  rw [Gp,L5,decide_eq_true_eq];constructor
  ·intro h;simp only [ZY,Yf,or_false,forall_eq_or_imp,forall_eq] at h;obtain ⟨h0,h1,h2⟩:=h;obtain ⟨a0,a1,a2⟩:=x;obtain ⟨b0,b1,b2⟩:=y;simp [Jk,Pm.row] at h0 h1 h2;simp [*]
  ·rintro rfl;simp
 rw [this]
theorem kD {a:Act}{dst:Option Tmp}{yt ty:ZN}{x y:Yz}{pos:String}{after:Array Edge}{guard:Option (Nat × Bool)}{w:Zc}{p q:Pm}{r:Bool}(hx:a.eval x= .agg (Jk p))(hy:a.eval y= .agg (Jk q))(hr:(!decide (p=q))=r) :
  (Xn a.eval { dst,op:= .binOp .neq 61 x y yt,type:=ty,pos,after,guard}).run Zb w= .ok (.value (.bool r)) w:=by
 simp only [Xn,hx,hy,Yi,Kn w .neq _ x y _ _ (show Tryz.prog.eqGuardType Tryz.prog.depth 61=false by kernel_rfl),ZQ,run_neq_struct,Zin p q w,YC,hr]
theorem fv {C:Zc→Prop}{Qa:Act→Prop}{ops:Array Oper}{rest:List Oper}{a:Act}{dst:Option Tmp}{yt ty:ZN}{x y:Yz}{pos:String}{after:Array Edge}{guard:Option (Nat × Bool)}(p q:Pm)(r:Bool)(hw:YQ { dst,op:= .binOp .neq 61 x y yt,type:=ty,pos,after,guard} (JF ops a.tmps)=true)(hx:a.eval x= .agg (Jk p))(hy:a.eval y= .agg (Jk q))(hr:(!decide (p=q))=r)
  (h:ZW Zb ops C Qa rest (a.put dst (.bool r))) :ZW Zb ops C Qa ({ dst,op:= .binOp .neq 61 x y yt,type:=ty,pos,after,guard}::rest) a:=
 Gm (.bool r) hw (fun w=>kD hx hy hr) h
section
variable {P:YO} {ops:Array Oper} {rest:List Oper} {op:Oper} {a:Act} {w:Zc} {Q:Exit→Act→Zc→Prop}
theorem Dk {C:Zc→Prop}{Qa:Act→Prop}(ty:ZN)(x:Yz)(b o:Nat)(v:Pm)(d:Kq)(hw:YQ op (JF ops a.tmps)=true)(ho:op.op= .load ty x)(hx:a.eval x= .pointer (some ⟨b,o,none⟩))
  (hC: ∀w,C w→w.rangeAt b o v.row) (hu:P.underlying ty=some d) (hd:d.isRow=true) (hi:(P.info? ty).map (·.size)=some 3)
  (h:ZW P ops C Qa rest (a.put op.dst (.agg (Jk v)))) :ZW P ops C Qa (op::rest) a:=by
 exact sE
end
theorem Blk.rangePm {w:Zc}{b t:Nat}{v:Pm}(h:Blk w b t (Jk v)) :w.rangeAt b 0 v.row:=fun j u hu=>by
 rw [ZX,h.cell j];simpa [Jk] using hu
theorem lX (x:Pm)(w:Zc) :(Xc 40 1 #[(0,.agg (Jk x))]).run Zb w= .ok (.slice (some ⟨w.heap.size,0,none⟩) 1 1) (w.alloc (.cells (Jk x) 61)):=by
 obtain ⟨i,hi,hz,hs,LJ⟩:=Zd3;simp [Xc,run_underlying Tryz.underlying40,sizeOf,typeInfo,hi,hz,hs,Instr.fill,newRow,go_sem,Jk,Pm.row]
theorem rE {o:Oper}{a:Act}{w:Zc}{K:Act→Zc→Prop}{Q:Exit→Act→Zc→Prop}(x:Yz)(p:Pm)(ho:o.op= .buildSlice 40 1 #[(0,x)])(hx:a.eval x= .agg (Jk p))
  (h:K (a.put o.dst (.slice (some ⟨w.heap.size,0,none⟩) 1 1)) (w.alloc (.cells (Jk p) 61))) :o.wp Zb a w K Q:=by
 unfold Oper.wp Xn;simp only [ho,Q3,Y2,J6,hx,Yi,lX p w,ZQ,YC];exact h
end
section
open Go Go.ChangeShapes Go.WideShapes Go.RowKit Go.Deep
structure Oq where
 kd:Int
 ix:Int
 tg:Int
 am:Int
deriving DecidableEq,Inhabited
def Oq.row (v:Oq) :List Zl:= [.int .i64 v.kd,.int .i64 v.ix,.int .i64 v.tg,.int .u64 v.am]
def ZM (v:Oq) :Array Zl:=v.row.toArray
def Kk (v:Oq) :Prop:=(Xg .i64 v.kd).wf=true∧(Xg .i64 v.ix).wf=true∧(Xg .i64 v.tg).wf=true∧(Xg .u64 v.am).wf=true
def oqZ:Oq:=⟨0,0,0,0⟩
theorem Oq.row_len (v:Oq) :v.row.length=4:=rfl
theorem Oq.row_one (v:Oq) : ∀u ∈ v.row,u.oneCell'=true:=by
 intro u hu;simp only [Oq.row,ZY,Yf,or_false] at hu
 rcases hu with rfl | rfl | rfl | rfl <;> rfl
theorem OU (v:Oq) :(ZM v).all (·.oneCell')=true:=by
 refine ZT.2 (fun u hu=>Oq.row_one v u (by simpa [ZM] using hu))
theorem QL:(Tryz.prog.info? 37).map (·.size)=some 4:=by kernel_rfl
theorem Zd2: ∃i,Tryz.prog.info? 37=some i∧i.zero=some (.agg (ZM oqZ))∧i.size=4∧i.bytes=32:=by
 have h:(Tryz.prog.info? 37).map (fun i=>(i.zero,i.size,i.bytes))=some (some (.agg (ZM oqZ)),4,32):=by kernel_rfl
 cases hi:Tryz.prog.info? 37 with
 | none=>rw [hi] at h; cases h
 | some i=>
  rw [hi] at h;simp at h;exact ⟨i,rfl,h.1,h.2.1,h.2.2⟩
section
variable {H:Type} {enc:ZN × Zl→H} {w:Zc} {base:Nat} {spare:Nat→Bool} {held:Bool}
theorem Zch {n:Nat}{cs:List Zl}{x:DataW H × List MemPlace}(h:DataW.trod enc Zb w base spare held n 37 cs=some x) : ∃v:Oq,cs=v.row∧Kk v:=by
 obtain ⟨ys,n',hn',hy,hlen,hyl,hf⟩:=DataW.trod_struct Tryz.underlying37 h;have hlen:cs.length=4:=hlen.trans Ye;have hyl:ys.length=4:=hyl;have get: ∀j (f:Field),j < 4→f.offset=j→Tryz.prog.cellsOf f.type=1→DataW.trod enc Zb w base spare held n' f.type ((cs.drop f.offset).take (Tryz.prog.cellsOf f.type))=ys[j]?→ ∃v y,cs[j]?=some v∧DataW.trod enc Zb w base spare held n' f.type [v]=some y:=by
  intro j f hj ho hc ht;rw [ho,hc,List.drop_eq_getElem_cons Zm,Zf Zm] at ht;exact ⟨_,_,Zf Zm,ht⟩
 obtain ⟨v0,y0,c0,t0⟩:=get 0 _ Zm rfl Ye (hf 0 _ rfl);obtain ⟨v1,y1,c1,t1⟩:=get 1 _ Zm rfl Ye (hf 1 _ rfl);obtain ⟨v2,y2,c2,t2⟩:=get 2 _ Zm rfl Ye (hf 2 _ rfl);obtain ⟨v3,y3,c3,t3⟩:=get 3 _ Zm rfl Ye (hf 3 _ rfl);obtain ⟨x0,e0,_,w0⟩:=DataW.trod_int Yc t0;obtain ⟨x1,e1,_,w1⟩:=DataW.trod_int Yc t1;obtain ⟨x2,e2,_,w2⟩:=DataW.trod_int Yc t2;obtain ⟨x3,e3,_,w3⟩:=DataW.trod_int Xz t3;injection e0 with e0; injection e1 with e1; injection e2 with e2; injection e3 with e3;subst e0 e1 e2 e3;refine ⟨⟨x0,x1,x2,x3⟩,?_,w0,w1,w2,w3⟩
 match cs,hlen with
 | [a0,a1,a2,a3],_=>
  simp at c0 c1 c2 c3;subst c0 c1 c2 c3;rfl
def nx (w:Zc)(a:Option Addr)(len cap:Nat) :Prop:=de Oq.row 4 Kk w a len cap
end
end
section
open Go Go.ChangeShapes Go.WideShapes Go.RowKit Go.Deep
abbrev QT:=Int × Int
def BI (v:QT) :List Zl:= [.int .i64 v.1,.int .i64 v.2]
def JO (v:QT) :Array Zl:=(BI v).toArray
theorem DG (v:QT) :(BI v).length=2:=rfl
theorem ML (v:QT) : ∀u ∈ BI v,u.oneCell'=true:=by
 intro u hu;simp only [BI,ZY,Yf,or_false] at hu
 rcases hu with rfl | rfl <;> rfl
theorem RP (v:QT) :(JO v).all (·.oneCell')=true:=by
 refine ZT.2 (fun u hu=>ML v u (by simpa [JO] using hu))
theorem Lc:(Tryz.prog.info? 315).map (·.size)=some 2:=by kernel_rfl
theorem Zbu:(Tryz.prog.info? 315).map (fun i=>(i.zero,i.size,i.bytes))=some (some (.agg #[.int .i64 0,.int .i64 0]),2,16):=by kernel_rfl
def XX (l:List QT) :List Zl:=l.flatMap BI
theorem Ux (l:List QT) :(XX l).length=l.length*2:=by
 induction l with
 | nil=>rfl
 | cons x l ih=>simp only [XX,Jf,ZE,DG,Yp] at ih ⊢; omega
theorem Hu (l m:List QT) :XX (l++m)=XX l++XX m:=by simp [XX]
theorem ax (v:QT) :XX [v]=(BI v):=by simp [XX]
theorem dW {l:List QT}{i:Nat}{v:QT}(h:l[i]?=some v){j:Nat}(hj:j < 2) :(XX l)[i*2+j]?=(BI v)[j]?:=by
 induction l generalizing i with
 | nil=>simp at h
 | cons x l ih=>
  cases i with
  | zero=>
   simp at h;subst h;simp only [XX,Jf,Nat.zero_mul,ZX];rw [Yn (by rw [DG]; exact hj)]
  | succ i=>
   simp only [List.getElem?_cons_succ] at h;have:=ih h;simp only [XX,Jf] at this ⊢;rw [List.getElem?_append_right (by rw [DG]; omega),DG,show (i+1)*2+j - 2=i*2+j by omega];exact this
theorem Ox {w:Zc}{b off:Nat}{l:List QT}(h: ∀j u,(XX l)[j]?=some u→w.cell? ⟨b,off+j,none⟩=some u){i:Nat}{v:QT}(hi:l[i]?=some v) :w.rangeAt b (off+i*2) (BI v):=by
 intro j u hu;have hj:j < 2:=(Zi.1 hu).1;rw [Nat.add_assoc];exact h _ _ ((dW hi hj).trans hu)
section
variable {P:YO} {ops:Array Oper} {rest:List Oper} {op:Oper} {a:Act} {w:Zc} {Q:Exit→Act→Zc→Prop}
theorem BT (DV:op.guard=none)(ty:ZN)(x:Yz)(ho:op.op= .load ty x)
  (b o:Nat) (hx:a.eval x= .pointer (some ⟨b,o,none⟩)) (v:QT) (d:Kq) (hc:w.rangeAt b o (BI v))
  (hu:P.underlying ty=some d) (hd:d.isRow=true) (hi:(P.info? ty).map (·.size)=some 2)
  (h:YY P ops Q rest (a.put op.dst (.agg (JO v))) w) :YY P ops Q (op::rest) a w:=
 wpList_load_mid DV ty x ho b o hx (BI v) d hc hu hd hi h
end
structure OpV where
 due:Bool
 ep:Int
 it:Int
deriving Inhabited
def zg (x:OpV) :List Zl:= [.bool x.due,.int .i64 x.ep,.int .i64 x.it]
def iL (x:OpV) :Array Zl:=(zg x).toArray
theorem Blk.op {w:Zc}{g t:Nat}{x:OpV}(h:Blk w g t (iL x)) :w.rangeAt g 0 (zg x):=fun j u hu=>by
 rw [ZX,h.cell j];simpa [iL] using hu
end
section
open Go Go.RowKit Go.Deep
section
variable {w w' a:Zc} {g t:Nat} {S:Nat→Prop}
def PY (w:Zc)(g cap n:Nat)(l:List QT) :Prop:=
 l.length=n∧n≤cap∧cap≤maxLen∧ ∃rest:List Zl,rest.length=(cap - n)*2∧Blk w g 315 (XX l++rest).toArray
theorem Lj {base cap n:Nat}{l:List QT}(h:w.ownsRow base 315 2 (.slice (some ⟨g,0,none⟩) n cap) n (XX l)) :PY w g cap n l:=by
 have hl:=h.1;rw [Ux] at hl
 rcases h.2 with ⟨h1,_⟩ | ⟨g',BB,cur,h1,h2,h3,h4,h5,h6,h7⟩
 ·cases h1
 ·injection h1 with h1 _ ph;injection h1 with h1;injection h1 with h1;subst h1 ph;have e:cur=(XX l++cur.toList.drop (n*2)).toArray:=by rw [←h7,QJ]
  refine ⟨by omega,h4,h5,cur.toList.drop (n*2),?_,by rw [←e]; exact h3⟩;rw [Q0,Array.length_toList,h6,Nat.sub_mul]
theorem PY.owns {base cap n:Nat}{l:List QT}(h:PY w g cap n l)(hb:base≤g) :w.ownsRow base 315 2 (.slice (some ⟨g,0,none⟩) n cap) n (XX l):=by
 obtain ⟨h1,h2,h3,rest,h4,h5⟩:=h;refine ⟨by rw [Ux,h1],.inr ⟨g,cap,_,rfl,hb,h5,h2,h3,?_,?_⟩⟩
 ·simp only [List.size_toArray,ZE,Ux,h4,h1];have:n*2≤cap*2:=Nat.mul_le_mul_right 2 h2;rw [Nat.sub_mul]; omega
 ·rw [List.toList_toArray,List.take_left' (by rw [Ux,h1])]
section
variable {cap n i j:Nat} {l:List QT} {x y v Qo:QT} {X Y L R Q:List QT}
theorem PY.lt (h:PY w g cap n l) :g < w.heap.size:=by
 obtain ⟨_,_,_,rest,_,h5⟩:=h;exact h5.lt
theorem PY.same (h:PY w g cap n l)(hb:w'.heap[g]?=w.heap[g]?) :PY w' g cap n l:=by
 obtain ⟨h1,h2,h3,rest,h4,h5⟩:=h;exact ⟨h1,h2,h3,rest,h4,hb.trans h5⟩
theorem PY.drew (h:PY w g cap n l) :PY w.drew g cap n l:=h
theorem PY.drewN (h:PY w g cap n l)(m:Nat) :PY (w.drewN m) g cap n l:=h
theorem PY.below (h:PY w g cap n l)(hb:Zs w.heap.size w w') :PY w' g cap n l:=h.same (hb.block g h.lt)
theorem PY.at (h:PY w g cap n l)(hi:l[i]?=some x) :w.rangeAt g (i*2) (BI x):=by
 obtain ⟨h1,h2,h3,rest,h4,h5⟩:=h;have:=Ox (w:=w) (b:=g) (off:=0) (l:=l) (fun k u hu=>by
  rw [h5.cell,ZX,YL,Yn (Zi.1 hu).1];exact hu) hi
 rwa [ZX] at this
theorem PY.set (h:PY w g cap n (X++Qo::Y))(hi:X.length=i)(v:QT) :PY (w.setCells g (i*2) (BI v)) g cap n (X++v::Y)∧w.there g (i*2) 2:=by
 obtain ⟨h1,h2,h3,rest,h4,h5⟩:=h;have e1:XX (X++Qo::Y)++rest=XX X++BI Qo++(XX Y++rest):=by simp [XX]
 have e2:XX (X++v::Y)++rest=XX X++BI v++(XX Y++rest):=by simp [XX]
 rw [e1] at h5;have hX:(XX X).length=i*2:=by rw [Ux,hi]
 have GJ:=UM (BI v) (XX X) (BI Qo) (XX Y++rest) w rfl h5;rw [hX] at GJ;refine ⟨⟨by simpa using h1,h2,h3,rest,h4,by rw [e2]; exact GJ⟩,fun j hj=>⟨?_,h5.frozen _⟩⟩;rw [h5.cell,Array.getElem?_eq_getElem (by simp [Ux,hi,DG]; omega)];rfl
end
end
end
section
open Go Go.RowKit Go.Deep
def bk (n:Nat)(L:List QT)(j:Nat) :List QT:=L.filter fun e=>e.1%(n:Int)==(j:Int)
def OkE (L:List QT) :Prop:= ∀e ∈ L,0≤e.1∧e.1≤1099511627776
theorem Ca (n:Nat)(L:List QT)(j:Nat) :(bk n L j).length≤L.length:=List.length_filter_le _ _
theorem WC (n:Nat)(L M:List QT)(j:Nat) :bk n (L++M) j=bk n L j++bk n M j:=List.filter_append _ _
theorem nY {n j:Nat}{e:QT}(h:e.1%(n:Int)=(j:Int))(i:Nat) :bk n [e] i=if i=j then [e] else []:=by
 unfold bk
 by_cases hi:i=j
 ·subst hi; simp [h]
 ·rw [if_neg hi];have: ¬e.1%(n:Int)=(i:Int):=by omega
  simp [this]
theorem WD (n:Nat)(L:List QT)(j:Nat)(p:QT→Bool) :bk n (L.filter p) j=(bk n L j).filter p:=by
 unfold bk;rw [List.filter_filter,List.filter_filter]
 congr 1
 funext e
 rw [Bool.and_comm]
theorem nX {n j:Nat}{ep:Int}(h:ep%(n:Int)=(j:Int))(L:List QT) :(bk n L j).filter (fun e=>e.1==ep)=L.filter fun e=>e.1==ep:=by
 unfold bk;rw [List.filter_filter]
 congr 1
 funext e
 by_cases he:e.1=ep
 ·simp [he,h]
 ·simp [he]
theorem nZ {n i j:Nat}{ep:Int}(h:ep%(n:Int)=(j:Int))(hi:i≠j)(L:List QT) :(bk n L i).filter (fun e=>!(e.1==ep))=bk n L i:=by
 rw [List.filter_eq_self];intro e he;have:=(List.mem_filter.1 he).2;simp only [beq_iff_eq] at this;simp only [Bool.not_eq_true',beq_eq_false_iff_ne,ne_eq];rintro rfl;omega
structure Vi (w:Zc)(b B n:Nat)(ss:List Zl)(L:List QT) :Prop where
 own:Blk w b 224 #[.slice (some ⟨B,0,none⟩) n n]
 bks:Blk w B 206 ss.toArray
 len:ss.length=n
 pos:1≤n
 top:n≤4096
 row: ∀(j:Nat) (s:Zl),ss[j]?=some s→w.ownsRow 0 315 2 s (bk n L j).length (XX (bk n L j))
 apart: ∀(i j:Nat) (s t:Zl) (q:Nat),i≠j→ss[i]?=some s→ss[j]?=some t→s.ownBlock=some q→t.ownBlock≠some q
 ok:OkE L
def GX (w:Zc)(b:Nat)(S:Nat→Prop)(n:Nat)(L:List QT) :Prop:=
 ∃B ss,Vi w b B n ss L∧ ∀i,S i ↔ i=b∨i=B∨ ∃s:Zl,s ∈ ss∧s.ownBlock=some i
theorem Eu {w:Zc}{s:Zl}{n:Nat}{xs:List Zl}(h:w.ownsRow 0 315 2 s n xs) : ∃a cp,s= .slice a n cp∧n≤cp∧cp≤maxLen:=by
 exact Zcy
theorem UU {w w':Zc}{base e k:Nat}{s:Zl}{n:Nat}{xs:List Zl}(h:w.ownsRow base e k s n xs)(hb: ∀i,s.ownBlock=some i→w'.heap[i]?=w.heap[i]?) :w'.ownsRow base e k s n xs:=by
 exact ZcF
theorem bJ {w:Zc}{base e k:Nat}{s:Zl}{n:Nat}{xs:List Zl}{q t:Nat}{cs:Array Zl}(h:w.ownsRow base e k s n xs)(hq:s.ownBlock=some q)(hb:Blk w q t cs) :t=e:=by
 rcases h.2 with ⟨rfl,_⟩ | ⟨g,cp,cur,rfl,_,h3,_⟩
 ·cases hq
 ·injection hq with hq;have hq:g=q:=hq;subst hq;unfold Blk at hb;rw [h3] at hb;injection hb with hb;injection hb with _ hb;exact hb.symm
section
variable {w w':Zc} {b B n j:Nat} {s s':Zl} {ss:List Zl} {L L':List QT} {S T:Nat→Prop}
theorem Vi.ne (h:Vi w b B n ss L) :b≠B:=h.own.ne_ h.bks YU
theorem Vi.not (h:Vi w b B n ss L)(hs:ss[j]?=some s) :s.ownBlock≠some b∧s.ownBlock≠some B:=
 ⟨fun e=>absurd (bJ (h.row j s hs) e h.own) YU,fun e=>absurd (bJ (h.row j s hs) e h.bks) YU⟩
theorem Vi.get (h:Vi w b B n ss L)(hj:j < n) : ∃s,ss[j]?=some s:=⟨_,Zf (by rw [h.len]; exact hj)⟩
theorem Vi.cells (h:Vi w b B n ss L)(hs:ss[j]?=some s) :w.cell? ⟨b,0,none⟩=some (.slice (some ⟨B,0,none⟩) n n)∧w.cell? ⟨B,j,none⟩=some s:=
 ⟨h.own.cell 0,by rw [h.bks.cell j,YL]; exact hs⟩
theorem Vi.same (h:Vi w b B n ss L)(hb:w'.heap[b]?=w.heap[b]?)(hB:w'.heap[B]?=w.heap[B]?)(hs: ∀s:Zl,s ∈ ss→ ∀i,s.ownBlock=some i→w'.heap[i]?=w.heap[i]?) :Vi w' b B n ss L:=
 ⟨hb.trans h.own,hB.trans h.bks,h.len,h.pos,h.top,fun j s hj=>UU (h.row j s hj) (hs s (ZB hj)),h.apart,h.ok⟩
theorem Vi.lt (h:Vi w b B n ss L)(hs:s ∈ ss){i:Nat}(hi:s.ownBlock=some i) :i < w.heap.size:=by
 obtain ⟨j,hj⟩:=List.mem_iff_getElem?.1 hs;exact ((h.row j s hj).lt i hi).2
theorem Vi.upd (h:Vi w b B n ss L)(hj:ss[j]?=some s)(hb:w'.heap[b]?=w.heap[b]?)(hB:Blk w' B 206 (ss.set j s').toArray)
  (hs: ∀(i:Nat) (t:Zl),i≠j→ss[i]?=some t→ ∀q,t.ownBlock=some q→w'.heap[q]?=w.heap[q]?) (hr:w'.ownsRow 0 315 2 s' (bk n L' j).length (XX (bk n L' j))) (ho: ∀i,i≠j→bk n L' i=bk n L i)
  (hn:s'.ownBlock=s.ownBlock∨ ∃q,s'.ownBlock=some q∧w.heap.size≤q) (PJ:OkE L') :Vi w' b B n (ss.set j s') L':=by
 have DW:=(Zi.1 hj).1;have pick: ∀ {i t},(ss.set j s')[i]?=some t→(i=j∧t=s')∨(i≠j∧ss[i]?=some t):=fun {i t} hi=>by
  by_cases e:j=i
  ·subst e;rw [YN DW] at hi;exact .inl ⟨rfl,(ZS hi).symm⟩
  ·rw [YB e] at hi;exact .inr ⟨fun h=>e h.symm,hi⟩
 refine ⟨hb.trans h.own,hB,by rw [List.length_set]; exact h.len,h.pos,h.top,fun i t hi=>?_,fun i k x y q sV hx hy hq=>?_,PJ⟩
 ·rcases pick hi with ⟨rfl,rfl⟩ | ⟨KF,hi⟩
  ·exact hr
  ·rw [ho i KF];exact UU (h.row i t hi) (hs i t KF hi)
 ·rcases pick hx with ⟨rfl,rfl⟩ | ⟨KF,vC⟩
  ·rcases pick hy with ⟨rfl,rfl⟩ | ⟨hne2,hy⟩
   ·exact absurd rfl sV
   ·rcases hn with hn | ⟨q',hn,hl⟩
    ·exact h.apart _ _ _ _ q sV hj hy (by rw [←hn]; exact hq)
    ·intro e;have:=h.lt (ZB hy) e;rw [hn] at hq;injection hq with hq;omega
  ·rcases pick hy with ⟨rfl,rfl⟩ | ⟨hne2,hy⟩
   ·rcases hn with hn | ⟨q',hn,hl⟩
    ·intro e;exact h.apart _ _ _ _ q sV vC hj hq (by rw [←hn]; exact e)
    ·intro e;have:=h.lt (ZB vC) hq;rw [hn] at e;injection e with e;omega
   ·exact h.apart _ _ _ _ q sV vC hy hq
theorem GX.lt (h:GX w b S n L) : ∀i,S i→i < w.heap.size:=fun i hi=>by
 obtain ⟨B,ss,hp,hS⟩:=h
 rcases (hS i).1 hi with rfl | rfl | ⟨s,hs,hq⟩
 ·exact hp.own.lt
 ·exact hp.bks.lt
 ·exact hp.lt hs hq
theorem GX.same (h:GX w b S n L)(hb: ∀i,S i→w'.heap[i]?=w.heap[i]?) :GX w' b S n L:=by
 obtain ⟨B,ss,hp,hS⟩:=h;exact ⟨B,ss,hp.same (hb b ((hS b).2 (.inl rfl))) (hb B ((hS B).2 (.inr (.inl rfl)))) (fun s hs i hi=>hb i ((hS i).2 (.inr (.inr ⟨s,hs,hi⟩)))),hS⟩
theorem GX.kept (h:GX w b S n L)(k:Kept T w w')(hT: ∀i,S i→ ¬T i) :GX w' b S n L:=h.same fun i hi=>k.block i (h.lt i hi) (hT i hi)
theorem GX.below (h:GX w b S n L)(k:Zs w.heap.size w w') :GX w' b S n L:=h.same fun i hi=>k.block i (h.lt i hi)
theorem GX.alloc (h:GX w b S n L)(o:Obj) :GX (w.alloc o) b S n L:=h.below ((Zp _ _).alloc (Zg _) o)
theorem GX.drewN (h:GX w b S n L)(m:Nat) :GX (w.drewN m) b S n L:=h.same fun _ _=>rfl
theorem GX.drew (h:GX w b S n L) :GX w.drew b S n L:=h.same fun _ _=>rfl
theorem GX.fits (h:GX w b S n L) :1≤n∧n≤4096∧OkE L:=by
 obtain ⟨B,ss,hp,hS⟩:=h;exact ⟨hp.pos,hp.top,hp.ok⟩
end
end
section
open Go Go.RowKit Go.Deep
theorem lh (n:Nat) :madeCells #[.slice none 0 0] n=(Zy n (Yj none 0 0)).toArray:=by
 apply Array.ext
 ·simp [madeCells]
 ·intro i h1 h2;simp [madeCells,Nat.mod_one]
theorem fS: ∃i,Tryz.prog.info? 206=some i∧i.zero=some (.slice none 0 0)∧i.size=1∧i.bytes=24:=by
 have h:(Tryz.prog.info? 206).map (fun i=>(i.zero,i.size,i.bytes))=some (some (.slice none 0 0),1,24):=by kernel_rfl
 cases hi:Tryz.prog.info? 206 with
 | none=>rw [hi] at h; cases h
 | some i=>
  rw [hi] at h;simp at h;exact ⟨i,rfl,h.1,h.2.1,h.2.2⟩
theorem eV (n:Nat)(w:Zc)(h1:1≤n)(h2:n≤4096) :
  Zj Zb 78 #[.int .i64 n] w fun e w'=>e= .returned (.pointer (some ⟨w.heap.size+1,0,none⟩))∧(w.alloc (.cells (Zy n (Yj none 0 0)).toArray 206)).alloc (.cells #[.slice (some ⟨w.heap.size,0,none⟩) n n] 224)=w':=by
 obtain ⟨i,hi,hz,hs,LJ⟩:=fS;have Dw:=fun w=>QZ (P:=Zb) 222 206 i _ Tryz.underlying222 hi hz .i64 .i64 n n (Zg _) TI Zm w
 rw [hs,Nat.mul_one] at Dw;have td:(Yj none 0 0).cells= #[.slice none 0 0]:=rfl;rw [td,lh] at Dw;have h0: ¬(n:Int)< 1:=by omega
 have h3: ¬(4096:Int)< (n:Int):=by omega
 generalize (Zy n (Yj none 0 0)).toArray=cs at*;clear hi hz hs LJ td h1 h2;go_enter Tryz.func78,Tryz.ntmps78;exact UI
theorem eR (n:Nat)(w:Zc)(h1:1≤n)(h2:n≤4096) :
  Zj Zb 78 #[.int .i64 n] w fun e w'=> ∃b S,e= .returned (.pointer (some ⟨b,0,none⟩))∧GX w' b S n []∧(∀i,S i→w.heap.size≤i)∧Zs w.heap.size w w':=by
 refine (eV n w h1 h2).mono ?_;rintro e w' ⟨rfl,rfl⟩;refine ⟨w.heap.size+1,fun i=>i=w.heap.size+1∨i=w.heap.size,rfl,?_,fun i hi=>by omega,((Zp _ _).alloc (Zg _) _).alloc ZI _⟩;refine ⟨w.heap.size,Zy n (.slice none 0 0),⟨?_,?_,by simp,h1,h2,fun j s hj=>?_,fun i j s t q _ hs _ hq=>?_,fun e he=>by simp at he⟩,fun i=>?_⟩
 ·have:=Zv (w.alloc (.cells (Zy n (Yj none 0 0)).toArray 206)) 224 #[.slice (some ⟨w.heap.size,0,none⟩) n n];rwa [World.size_alloc] at this
 ·exact YA (Zv w _ _) _
 ·obtain ⟨_,rfl⟩:=List.mem_replicate.1 (ZB hj);exact World.ownsRow_nil _ _ _ _
 ·obtain ⟨_,rfl⟩:=List.mem_replicate.1 (ZB hs)
  cases hq
 ·constructor
  ·rintro (h | h)
   ·exact .inl h
   ·exact .inr (.inl h)
  ·rintro (h | h | ⟨s,hs,hq⟩)
   ·exact .inl h
   ·exact .inr h
   ·obtain ⟨_,rfl⟩:=List.mem_replicate.1 hs
    cases hq
theorem MJ (b n j cp:Nat)(a:Option Addr)(ep:Int)(w:Zc)(hb:w.cell? ⟨b,0,none⟩=some (.slice a n cp))(hn:1≤n)(ee:n≤4096)(h0:0≤ep)(h1:ep≤1099511627776)(hj:ep%(n:Int)=(j:Int)) :
  Zj Zb 251 #[.pointer (some ⟨b,0,none⟩),.int .i64 ep] w fun e w'=>e= .returned (.tuple #[.int .i64 j,.bool true])∧w=w':=by
 have h2: ¬ep < 0:=by omega
 have h3: ¬1099511627776 < ep:=by omega
 have hnz:((n:Int)==0)=false:=by simp; omega
 have hnz2: ¬(n:Int)=0:=by omega
 have hnz3:(0:Int)< (n:Int):=by omega
 go_enter Tryz.func251,Tryz.ntmps251;exact AN
end
section
open Go Go.RowKit Go.Deep
theorem Ck: ∃i,Tryz.prog.info? 315=some i∧i.zero=some (.agg #[.int .i64 0,.int .i64 0])∧i.size=2∧i.bytes=16:=by
 have h:=Zbu
 cases hi:Tryz.prog.info? 315 with
 | none=>rw [hi] at h; cases h
 | some i=>
  rw [hi] at h;simp at h;exact ⟨i,rfl,h.1,h.2.1,h.2.2⟩
theorem WQ:(Tryz.prog.info? 315).map (fun i=>(i.zero,i.size))=some (some (.agg #[.int .i64 0,.int .i64 0]),2):=by
 obtain ⟨i,hi,h1,h2,h3⟩:=Ck;rw [hi];simp [h1,h2]
theorem iK (w:Zc)(e:QT)(t:ZN) : ∀j u,(BI e)[j]?=some u→(w.alloc (.cells (JO e) t)).cell? ((⟨w.heap.size,0,none⟩ :Addr).add j)=some u:=fun j u hu=>by
 rw [add_plain,ZX,(Zv w t (JO e)).cell j];simpa [JO] using hu
theorem qM {w w3:Zc}{b B n j:Nat}{s s':Zl}{ss:List Zl}{L:List QT}{e:QT}(h:Vi w b B n ss L)(hs:ss[j]?=some s)(hj:e.1%(n:Int)=(j:Int))(he:0≤e.1∧e.1≤1099511627776)
  (hk:Kept (fun i=>s.ownBlock=some i) w w3) (ho:w3.ownsRow 0 315 2 s' ((bk n L j).length+1) (XX (bk n L j)++BI e)) (hn:s'.ownBlock=s.ownBlock∨ ∃q,s'.ownBlock=some q∧w.heap.size≤q) :
  Vi (w3.setCell ⟨B,j,none⟩ s') b B n (ss.set j s') (L++[e]):=by
 have FA:=h.not hs;have DW:=(Zi.1 hs).1;have hBne: ∀q,s'.ownBlock=some q→q≠B:=fun q hq e=>by
  rcases hn with hn | ⟨q',hn,hl⟩
  ·exact FA.2 (by rw [←hn,hq,e])
  ·rw [hq] at hn;injection hn with hn;have:=h.bks.lt;omega
 have uY:w3.heap[B]?=w.heap[B]?:=hk.block B h.bks.lt FA.2;have e1:bk n (L++[e]) j=bk n L j++[e]:=by rw [WC,nY hj,if_pos rfl]
 refine h.upd hs ?_ ?_ (fun i t hij ht q hq=>?_) ?_ (fun i hi=>by rw [WC,nY hj,if_neg hi,List.append_nil]) hn (fun x hx=>?_)
 ·exact zO
 ·exact ZgG
 ·exact Zf8
 ·rw [e1];refine UU (w:=w3) ?_ (fun q hq=>Below.heap_setCell _ _ _ _ (hBne q hq));rw [ZE,List.length_singleton,Hu,ax];exact ho
 ·rcases YG.1 hx with hx | hx
  ·exact h.ok x hx
  ·rw [YV.1 hx]; exact he
theorem wu (b B n j:Nat)(ss:List Zl)(s:Zl)(L:List QT)(ep it:Int)(w:Zc)(h:Vi w b B n ss L)(hs:ss[j]?=some s)(h0:0≤ep)(h1:ep≤1099511627776)(hj:ep%(n:Int)=(j:Int))(hL:L.length≤100000) :
  Zj Zb 196 #[.pointer (some ⟨b,0,none⟩),.int .i64 ep,.int .i64 it] w fun e w'=>e= .returned (.bool true)∧ ∃s',Vi w' b B n (ss.set j s') (L++[(ep,it)])∧(s'.ownBlock=s.ownBlock∨ ∃q,s'.ownBlock=some q∧w.heap.size≤q)∧Kept (fun i=>i=B∨s.ownBlock=some i) w w':=by
 have Dj:j < n:=by exact sf
 have Gd:=h.row j s hs;have hq:=Ca n L j;obtain ⟨a,cp,rfl,ph,pj⟩:=Eu Gd;obtain ⟨x0,x1⟩:=h.cells hs;have FA:=h.not hs;have HN:=Za (MJ b n j n (some ⟨B,0,none⟩) ep w x0 h.pos h.top h0 h1 hj);have tK:Hid (∀i,(Yj a (bk n L j).length cp).ownBlock=some i→i < w.heap.size):=Za (fun i hi=>(Gd.lt i hi).2);have O0:=h.own.lt;have hBl:=h.bks.lt;have HH:=Za h;have HS:=Za hs;have HJ:=Za hj;have HR:=Za Gd;have HE:=Za (Zh h0 h1);have tM:=Za FA;have hj1: ¬(j:Int)< 0:=by omega
 have yO: ¬(n:Int)≤(j:Int):=by omega
 have hj3:(j:Int)< (n:Int):=by omega
 obtain ⟨q,hqe⟩ : ∃q,(bk n L j).length=q:=⟨_,rfl⟩;rw [hqe] at hq tK HR tM ph x1;have HQ:=Za hqe;clear h hs Gd FA hj hqe;rw [HQ.out] at HS ⊢;obtain ⟨n0,Mm⟩ : ∃k,w.heap.size=k:=⟨_,rfl⟩;go_enter Tryz.func196,Tryz.ntmps196;go_wp2_with fail;refine HN.out.mono ?_;rintro e w' ⟨rfl,rfl⟩;go_wp2_with fail;refine M0 (fun _=>True) 18 18 [] trivial ?_;refine Qc ?_;refine headF_takes (fun w'=>w'.cell? ⟨b,0,none⟩=some (.slice (some ⟨B,0,none⟩) n n)∧w'.cell? ⟨B,j,none⟩=some (.slice a q cp)) (m:=18) (f:=3) [0,1,2,3,4,5,6,7,8,9,10,11,12,13,14] (fun _ _=>trivial) Ye ⟨x0,x1⟩ ?_;refine Kg ?_;show ZW _ _ _ _ [_,_,_,_,_,_,_,_,_,_,_,_,_,_,_] _;refine DP ?_;refine YJ 222 _ _ (.slice (some ⟨B,0,none⟩) n n) rfl rfl rfl (fun w h=>by simp [go_sem,h]) (fun w h=>h.1) ?_;refine Qe ?_;refine BN ?_;refine YJ 222 _ _ (.slice (some ⟨B,0,none⟩) n n) rfl rfl rfl (fun w h=>by simp [go_sem,h]) (fun w h=>h.1) ?_;refine Qe ?_;refine BL ?_;refine YJ 206 _ _ (.slice a q cp) rfl rfl rfl (fun w h=>by simp [go_sem,h]) (fun w h=>h.2) ?_;refine Qe ?_;refine DP ?_;refine Qc ?_;refine hfO (i:=15) ?_;refine YD rfl rfl (Jy 206 315 (.tmp 31) _ (.int .i64 ep) (.int .i64 it) rfl rfl GI WQ ⟨⟨ZF _ x0,ZF _ x1⟩,?_⟩);refine hfO (i:=16) ?_;refine Dg ?_;obtain ⟨i,hi,hz,mX,LJ⟩:=Ck;refine YD rfl rfl (EC _ (.tmp 28) (.tmp 32) 206 rfl 0 315 i _ 2 16 GI hi hz mX LJ rfl Zm (.slice a q cp) q (XX (bk n L j)) rfl (World.ownsRow.alloc (w:=w.drew) HR.out _)
  (some ⟨w.drew.heap.size,0,none⟩) 1 1 (BI (ep,it)) rfl rfl (fun _=>⟨_,rfl,iK w.drew (ep,it) _⟩) (ML _) UH Zm Zm ?_)
 intro s' w3 ho3 hg3 hs3;have HK3:Hid (Kept (fun i=>(Yj a q cp).ownBlock=some i) w w3):=Za (((ZH _ w).drew.alloc _).trans (Kept.of_grown hg3 (S:=fun i=>(Yj a q cp).ownBlock=some i) (fun i hi=>hi.symm)) (fun _ _ h=>h));have PX:Hid (w3.ownsRow 0 315 2 s' (q+1) (XX (bk n L j)++BI (ep,it))):=Za ho3;have HS3:Hid (s'.ownBlock=(Yj a q cp).ownBlock∨ ∃p,s'.ownBlock=some p∧w.heap.size≤p):=Za (hs3.imp id (fun h=>⟨_,h,by simp⟩));have y0:=HK3.out.cell (p:=⟨b,0,none⟩) tM.out.1 x0;have y1:=HK3.out.cell (p:=⟨B,j,none⟩) tM.out.2 x1;obtain ⟨a',BB,rfl,-,-⟩:=Eu ho3;refine ⟨⟨y0,y1⟩,?_⟩;clear ho3 hg3 hs3 hi hz mX LJ;refine Dg ?_;refine hfT (fun w'=>w'.cell? ⟨b,0,none⟩=some (.slice (some ⟨B,0,none⟩) n n)∧w'.cell? ⟨B,j,none⟩=some (.slice a q cp)) (m:=1) (f:=0) [17] ⟨y0,y1⟩ ?_;refine Kg ?_;refine FV ?_;refine GN ?_;refine Qc ?_;refine Bn ?_;refine ⟨by kernel_rfl,?_⟩;refine LY ?_;have z1:w3.frozen? ⟨B,j,none⟩=false:=by
  rw [HK3.out.frozen (p:=⟨B,j,none⟩) tM.out.2 hBl];exact HH.out.bks.frozen j
 go_wp2;refine GM ?_;go_wp2;go_ret;refine ⟨rfl,.slice a' (q+1) BB,?_,HS3.out,?_⟩
 ·have hhs:=HS.out;exact qM HH.out hhs HJ.out HE.out HK3.out (by rw [HQ.out]; exact PX.out) HS3.out
 ·exact (HK3.out.more (fun _ _ h=> .inr h)).setCell (.inl (.inl rfl)) _
theorem ft (b n:Nat)(S:Nat→Prop)(L:List QT)(ep it:Int)(w:Zc)(h:GX w b S n L)(h0:0≤ep)(h1:ep≤1099511627776)(hL:L.length≤100000) :
  Zj Zb 196 #[.pointer (some ⟨b,0,none⟩),.int .i64 ep,.int .i64 it] w fun e w'=>e= .returned (.bool true)∧ ∃S',GX w' b S' n (L++[(ep,it)])∧(∀i,S' i→S i∨w.heap.size≤i)∧Kept S w w':=by
 obtain ⟨B,ss,hp,hS⟩:=h;obtain ⟨j,hj⟩ : ∃j:Nat,ep%(n:Int)=(j:Int):=⟨(ep%(n:Int)).toNat,by have:=Int.emod_nonneg ep (b:=(n:Int)) gG; omega⟩;have Dj:j < n:=by exact zD
 obtain ⟨s,hs⟩:=hp.get Dj;refine (wu b B n j ss s L ep it w hp hs h0 h1 hj hL).mono ?_;rintro e w' ⟨he,s',h2,h3,h4⟩;refine ⟨he,fun i=>i=b∨i=B∨ ∃s:Zl,s ∈ ss.set j s'∧s.ownBlock=some i,⟨B,_,h2,fun _=>Iff.rfl⟩,?_,h4.more (fun i _ hi=>?_)⟩
 ·rintro i (rfl | rfl | ⟨t,ht,hq⟩)
  ·exact .inl ((hS _).2 (.inl rfl))
  ·exact .inl ((hS _).2 (.inr (.inl rfl)))
  ·rcases Qp ht with ht | rfl
   ·exact .inl ((hS i).2 (.inr (.inr ⟨t,ht,hq⟩)))
   ·rcases h3 with h3 | ⟨q,h3,hl⟩
    ·exact .inl ((hS i).2 (.inr (.inr ⟨s,ZB hs,by rw [←h3]; exact hq⟩)))
    ·rw [hq] at h3;injection h3 with h3;exact .inr Zm
 ·exact Zgv
end
section
open Go.RowKit
theorem DS {b:Nat}{D P B C:Int}{w:Zc}(h:KR w b D P B C)(hF:JJ D P B C) :
  Zj Zb 234 #[.pointer (some ⟨b,0,none⟩)] w fun e w'=>e= .returned (.int .u64 (D - P - B))∧ ∃m,w'=w.drewN m:=
 IU b D P B w h.cells.1 h.cells.2.1 h.cells.2.2.1 hF.1 hF.2.1 hF.2.2.1 hF.2.2.2.1
theorem dM:(Tryz.prog.info? 305).map (fun i=>(i.zero,i.size))=some (some (.agg #[.int .i64 0,.int .u64 0]),2):=by kernel_rfl
theorem RY (b:Nat)(D P B C x:Int)(w:Zc)(h:KR w b D P B C)(hF:JJ D P B C)(hx:x>C -(D - P - B)) :
  Zj Zb 180 #[.pointer (some ⟨b,0,none⟩),.int .u64 x] w fun e w'=>e= .returned (.int .i64 4)∧ ∃m,w'=w.drewN m:=by
 have c3:=h.cells.2.2.2;have HB:Hid (∀n,Zj Zb 234 #[.pointer (some ⟨b,0,none⟩)] (w.drewN n) fun e w'=>e= .returned (.int .u64 (D - P - B))∧ ∃m,w'=(w.drewN n).drewN m):=Za (fun n=>DS (Xy h n) hF);obtain ⟨f0,f1,f2,f3,f4,f5⟩:=hF;clear h;go_enter Tryz.func180,Tryz.ntmps180;go_wp2;go_quiet ((go_at_call 234; exact Qw (HB.out _)));exact jF
theorem Ch (b:Nat)(D P B C x:Int)(w:Zc)(h:KR w b D P B C)(hF:JJ D P B C)(x0:0≤x)(x1:x≤18446744073709551615)(hx:x≤C -(D - P - B))(ho:18446744073709551615 < D+x) :
  Zj Zb 180 #[.pointer (some ⟨b,0,none⟩),.int .u64 x] w fun e w'=>e= .returned (.int .i64 10)∧Zs w.heap.size w w':=by
 have c3:=h.cells.2.2.2;have HB:Hid (∀n,Zj Zb 234 #[.pointer (some ⟨b,0,none⟩)] (w.drewN n) fun e w'=>e= .returned (.int .u64 (D - P - B))∧ ∃m,w'=(w.drewN n).drewN m):=Za (fun n=>DS (Xy h n) hF);have HK:Hid (∀(g:Nat) (w:Zc),KR w b D P B C→Blk w g 305 #[.int .i64 (0:Nat),.int .u64 x]→Zj Zb 235 #[.pointer (some ⟨b,0,none⟩),.slice (some ⟨g,0,none⟩) 1 1] w fun e w'=>e= .returned (.bool false)∧Zs w.heap.size w w'):=
  Za (fun g w hl hg=>uA 0 b g D P B C x D w hl hg Zm rfl (by have:=hF; unfold JJ at this; omega) hF.2.2.2.1 x0 x1 Zm)
 have H:=Za h;obtain ⟨f0,f1,f2,f3,f4,f5⟩:=hF;clear h;go_enter Tryz.func180,Tryz.ntmps180;go_wp2;go_quiet ((go_at_call 234; exact Qw (HB.out _)));go_wp2_with fail;refine (HK.out w.heap.size _ (YA (Xy H.out nq) _) (Zv (w.drewN nq) _ _)).mono ?_;rintro e w1 ⟨rfl,ER⟩;go_wp2_with fail;go_ret;exact ⟨rfl,((below_drewN (Zp _ w) nq).alloc (Zg _) _).trans (ER.mono ZI)⟩
theorem dF (b:Nat)(D P B C x:Int)(w:Zc)(h:KR w b D P B C)(hF:JJ D P B C)(x0:0≤x)(hx:x≤C -(D - P - B))(ho:D+x≤18446744073709551615) :
  Zj Zb 180 #[.pointer (some ⟨b,0,none⟩),.int .u64 x] w fun e w'=>e= .returned (.int .i64 0)∧KR w' b (D+x) P B C∧w.grownBy w' (some b):=by
 have c3:=h.cells.2.2.2;have HB:Hid (∀n,Zj Zb 234 #[.pointer (some ⟨b,0,none⟩)] (w.drewN n) fun e w'=>e= .returned (.int .u64 (D - P - B))∧ ∃m,w'=(w.drewN n).drewN m):=Za (fun n=>DS (Xy h n) hF);have HK:Hid (∀(g:Nat) (w:Zc),KR w b D P B C→Blk w g 305 #[.int .i64 (0:Nat),.int .u64 x]→Zj Zb 235 #[.pointer (some ⟨b,0,none⟩),.slice (some ⟨g,0,none⟩) 1 1] w fun e w'=>e= .returned (.bool true)∧KR w' b (D+x) P B C∧w.grownBy w' (some b)):=
  Za (fun g w hl hg=>IX 0 b g D P B C (D+x) P B x D w hl hg Zm rfl rfl (by have:=hF; unfold JJ at this; omega) x0 ho)
 have H:=Za h;obtain ⟨f0,f1,f2,f3,f4,f5⟩:=hF;clear h;go_enter Tryz.func180,Tryz.ntmps180;go_wp2;go_quiet ((go_at_call 234; exact Qw (HB.out _)));go_wp2_with fail;refine (HK.out w.heap.size _ (YA (Xy H.out nq) _) (Zv (w.drewN nq) _ _)).mono ?_;rintro e w1 ⟨rfl,hl1,hg1⟩;have HE:=Za (Zh hl1 (SD (DB (VW (J2 w (some b)) nq) _) hg1));clear hl1 hg1;go_wp2_with fail;go_ret;exact ⟨rfl,HE.out⟩
theorem NP (b s:Nat)(D P B C D' P' B' x y:Int)(w:Zc)(h:KR w b D P B C)(hF:JJ D P B C)(hx:x≤D - P - B)(x0:0≤x)(hs:s < 3)
  (hy:(#[.int .u64 D,.int .u64 P,.int .u64 B] :Array Zl)[s]?=some (.int .u64 y)) (hup:(#[.int .u64 D,.int .u64 P,.int .u64 B] :Array Zl).setIfInBounds s (.int .u64 (y+x))= #[.int .u64 D',.int .u64 P',.int .u64 B'])
  (y0:0≤y) (ME:y+x≤18446744073709551615) :
  Zj Zb 250 #[.pointer (some ⟨b,0,none⟩),.agg #[.int .i64 s,.int .u64 x]] w fun e w'=>e= .returned (.int .i64 0)∧KR w' b D' P' B' C∧w.grownBy w' (some b):=by
 have HK:Hid (∀(g:Nat) (w:Zc),KR w b D P B C→Blk w g 305 #[.int .i64 s,.int .u64 x]→Zj Zb 235 #[.pointer (some ⟨b,0,none⟩),.slice (some ⟨g,0,none⟩) 1 1] w fun e w'=>e= .returned (.bool true)∧KR w' b D' P' B' C∧w.grownBy w' (some b)):=
  Za (fun g w hl hg=>IX s b g D P B C D' P' B' x y w hl hg hs hy hup y0 x0 ME)
 have It:Hid (some w.heap.size≠some b):=Za (by have:=Blk.lt h; intro e; injection e with e; omega);have HF:=Za hF;have H1:Hid (KR (w.alloc (.cells #[.int .i64 s,.int .u64 x] 305)) b D P B C):=Za (YA h _);have HE:Hid (Blk (w.alloc (.cells #[.int .i64 s,.int .u64 x] 305)) w.heap.size 305 #[.int .i64 s,.int .u64 x]):=Za (Zv _ _ _);have HG:Hid (w.grownBy (w.alloc (.cells #[.int .i64 s,.int .u64 x] 305)) (some b)):=Za (DB (J2 _ _) _);clear h hF hy hup ME;go_enter Tryz.func250,Tryz.ntmps250;go_wp2;generalize w.alloc (.cells #[.int .i64 s,.int .u64 x] 305)=W at*;refine M0 (fun w'=>Blk w' w.heap.size 305 #[.int .i64 s,.int .u64 x]) 14 9 [0,1,2,3,4] (Ko HE.out) ?_;refine Kg ?_;refine NX ?_;refine GN ?_;refine YJ 22 _ _ (.int .u64 x) rfl rfl rfl (fun w h=>by simp [go_sem,h]) (fun w h=>Yg h 1) ?_;refine Qe ?_;refine DP ?_;refine Qc ?_;refine EE ?_;refine JZ #[.pointer (some ⟨b,0,none⟩)] Tryz.call234 ((DS (Ko H1.out) HF.out).mono ?_);rintro e w1 ⟨rfl,m,rfl⟩;refine ⟨_,rfl,Xy (Ko HE.out) m,?_⟩;have HX:Hid (decide (D - P - B < x)=false):=Za (by simpa using hx);refine Dg ?_;refine hfT (fun w'=>Blk w' w.heap.size 305 #[.int .i64 s,.int .u64 x]) (m:=8) (f:=2) [6,7,8,9,10,11] (Xy (Ko HE.out) m) ?_;refine Kg ?_;refine Is ?_;refine GN ?_;rw [HX.out];refine BN ?_;refine Jw 305 (.tmp 3) w.heap.size 305 _ _ Ye rfl rfl (fun _ h=>h) Tryz.underlying305 rfl pN ?_;refine Qe ?_;refine Qc ?_;refine hfO (i:=12) ?_;refine cL rfl Ye (Jy 340 305 (.tmp 18) _ (.int .i64 s) (.int .u64 x) rfl rfl Tryz.underlying340 dM ⟨YA (Xy (Ko HE.out) m) _,?_⟩);refine Dg ?_;refine hfO (i:=13) ?_;refine cL rfl Ye (TF rfl #[.pointer (some ⟨b,0,none⟩),.slice (some ⟨(W.drew.drewN m).heap.size,0,none⟩) 1 1] Ye Tryz.call235 ((HK.out (W.drew.drewN m).heap.size _ (YA (Xy (Ko H1.out) m) _) (Zv (W.drew.drewN m) _ _)).mono ?_));rintro e w2 ⟨rfl,pq,TT⟩;have hE2:=(YA (Xy (Ko HE.out) m) (.cells #[.int .i64 s,.int .u64 x] 305)).grown TT It.out;have HZ:=Za (Zh pq (SD (DB (VW (Ah HG.out) m) _) TT));refine ⟨_,rfl,hE2,?_⟩;clear pq TT hE2;refine Bn ?_;refine ⟨by kernel_rfl,?_⟩;refine LY ?_;go_wp2;refine GM ?_;go_wp2;go_ret;exact ⟨rfl,HZ.out⟩
end
section
open Go.RowKit
section
variable (b:Nat) (D P B C x:Int) (w:Zc) (h:KR w b D P B C) (hF:JJ D P B C)
include h hF
theorem we (x0:0≤x)(hx:x≤D - P - B) :Zj Zb 269 #[.pointer (some ⟨b,0,none⟩),.int .u64 x] w fun e w'=>e= .returned (.int .i64 0)∧KR w' b D (P+x) B C∧w.grownBy w' (some b):=by
 have H:=Za (NP b 1 D P B C D (P+x) B x P w h hF hx x0 Zm rfl rfl hF.1 (by unfold JJ at hF; omega));clear h hF hx;go_enter Tryz.func269,Tryz.ntmps269;exact Zgn
theorem od (x0:0≤x)(hx:x≤D - P - B) :Zj Zb 195 #[.pointer (some ⟨b,0,none⟩),.int .u64 x] w fun e w'=>e= .returned (.int .i64 0)∧KR w' b D P (B+x) C∧w.grownBy w' (some b):=by
 have H:=Za (NP b 2 D P B C D P (B+x) x B w h hF hx x0 Zm rfl rfl hF.2.1 (by unfold JJ at hF; omega));clear h hF hx;go_enter Tryz.func195,Tryz.ntmps195;exact Zgn
end
end
section
open Go Go.RowKit
section
variable {α:Type} {row:α→List Zl} {k:Nat} {w w':Zc} {a:Option Addr} {l:List α} {S T:Nat→Prop}
def Kt (row:α→List Zl)(k:Nat)(a:Option Addr)(l:List α) :Zc→(Nat→Prop)→Prop:=fun w S=>Kc row k w (fun i=> ¬S i) a l∧ ∀i,S i→i < w.heap.size
theorem Lp:Xa (Kt row k a l):=by
 refine ⟨fun w S h=>h.2,fun w w' S T h hk hT=>⟨?_,fun i hi=>Nat.lt_of_lt_of_le (h.2 i hi) hk.size⟩⟩;exact h.1.same hk.size fun b hb hn=>hk.block b hb (hT b (Classical.not_not.1 hn))
theorem Kt.apart (h:Kt row k a l w S)(hT: ∀i,S i→ ¬T i) :Kc row k w T a l:=h.1.more fun i _ hi=>fun hs=>hT i hs hi
theorem Kt.nil (w:Zc)(a:Option Addr) :Kt row k a ([] :List α) w (fun _=>False):=⟨Kc.nil _ _ _,fun _ h=>h.elim⟩
theorem Kc.drop {b off:Nat}(h:Kc row k w S (some ⟨b,off,none⟩) l)(n:Nat) :Kc row k w S (some ⟨b,off+n*k,none⟩) (l.drop n):=fun h0=>by
 obtain ⟨b',Zfe,h1,h2,h3,h4⟩:=h (by rw [Q0] at h0; omega);obtain ⟨rfl,rfl⟩ :b=b'∧off=Zfe:=by
  have:=ZS h1;injection this with e1 e2;exact ⟨e1,e2⟩
 refine ⟨b,off+n*k,rfl,h2,h3,fun i v hi=>?_⟩;rw [List.getElem?_drop] at hi;have:=h4 (n+i) v hi;rwa [show off+(n+i)*k=off+n*k+i*k by rw [Nat.add_mul]; omega] at this
end
end
section
open Go Go.RowKit Go.Deep
theorem Ph {x y:Zl}(o1:x.oneCell'=true)(o2:y.oneCell'=true) :(#[x,y] :Array Zl).all (·.oneCell')=true:=by simp [o1,o2]
theorem fy (b g size n f c i:Nat)(C F:List Zl)(x y:Zl)(w:Zc)(hr:Jd 192 73 2 w b g size n f c C)(hw:Wheel C (f*2) F)(hF:F.length=c*2)(hx:F[i*2]?=some x)(hy:F[i*2+1]?=some y)(o1:x.oneCell'=true)(o2:y.oneCell'=true) :
  Zj Zb 326 #[.pointer (some ⟨b,0,none⟩),.int .i64 i] w fun e w'=>e= .returned (.tuple #[.agg #[x,y],.bool true])∧Zs w.heap.size w w':=by
 obtain ⟨-,d1,d2,d3,-,-,-⟩:=hr.cells;obtain ⟨B1,B2,hC,cV,Sf,Nn,hs⟩:=hr;have hic:i < c:=by
  exact zo
 have hi1: ¬(i:Int)< 0:=by omega
 have UR: ¬(c:Int)≤(i:Int):=by omega
 obtain ⟨p,hp⟩ : ∃p:Nat,(f+i)%n=p:=⟨_,rfl⟩;have N0:p < n:=by exact sD
 have GS:w.cell? ⟨g,p*2,none⟩=some x:=by
  exact ZgD
 have Ct:w.cell? ⟨g,p*2+1,none⟩=some y:=by
  exact ZfQ
 have VM: ∀W:Zc,W.cell? ⟨b,1,none⟩=some (.slice (some ⟨g,0,none⟩) n n)→W.cell? ⟨b,2,none⟩=some (.int .i64 f)→Zj Zb 202 #[.pointer (some ⟨b,0,none⟩),.int .i64 i] W fun e w'=>e= .returned (.int .i64 p)∧ ∃m,w'=W.drewN m:=fun W x1 x2=>by
  have:=r2_slot_any b n f i _ n W x1 x2 Zm Zm Zm;rwa [hp] at this
 have yK:=B2.lt;have O0:=B1.lt;have hra:(w.alloc (.cells #[.int .i64 0,.int .i64 0] 73)).rangeAt g (p*2) [x,y]:=fun j v hv=>by
  exact Zf7
 have HRA:=Za hra;have IF:=Za VM;have e1:=QU (.cells #[.int .i64 0,.int .i64 0] 73) d1;have e2:=QU (.cells #[.int .i64 0,.int .i64 0] 73) d2;clear VM hp B1 B2 hC hw hF hx hy hra GS Ct;go_enter Tryz.func326,Tryz.ntmps326;go_wp2_with fail;refine (SS _ c _ (QU _ d3)).mono ?_;rintro e w' ⟨rfl,rfl⟩;go_wp2;refine wqT 9 ?_;refine BA ?_;iterate 8 (go_big_quiet_step ((go_at_call 202; exact Qw (IF.out _ e1 e2))))
 refine CO (.agg #[x,y]) rfl (fun W hW=>?_) ?_
 ·obtain ⟨q,rfl⟩:=hW;have hl:=run_loadAt_mid (P:=Zb) ((w.alloc (.cells #[.int .i64 0,.int .i64 0] 73)).drewN q) g (p*2) 73 [x,y] _ HRA.out XW rfl Ye;unfold Xn;simp only [Act.eval,Yi]
  erw [hl]
  rfl
 refine Qc ?_;intro _ JB;obtain ⟨nr,Xh⟩:=JB;subst Xh;refine Zo rfl _ _ _ rfl w.heap.size #[x,y] rfl rfl 73 _ (Xy (Zv w _ _) nr) Ye rfl (by simp [o1,o2]) ?_;have HB:Hid (Blk ((((w.alloc (.cells #[.int .i64 0,.int .i64 0] 73)).drewN nr)).setRow w.heap.size #[x,y]) w.heap.size 73 #[x,y]):=Za (QS (Xy (Zv w _ _) nr) _);have HL:Hid (Zs w.heap.size w ((((w.alloc (.cells #[.int .i64 0,.int .i64 0] 73)).drewN nr)).setRow w.heap.size #[x,y])):=Za (below_setRow (below_drewN ((Zp _ _).alloc (Zg _) _) nr) (Zg _) _);go_wp2;refine ZL (v:= .tuple #[.agg #[x,y],.bool true]) (XY (fn:=Tryz.f326) rfl _ _ w.heap.size 73 _ (0,0) _ rfl HB.out XW rfl Ye) rfl ⟨rfl,HL.out⟩
theorem lM (b g size n f c:Nat)(C F:List Zl)(x y:Zl)(w:Zc)(hr:Jd 192 73 2 w b g size n f (c+1) C)(hw:Wheel C (f*2) (x::y::F))(hF:F.length=c*2)(o1:x.oneCell'=true)(o2:y.oneCell'=true) :
  Zj Zb 316 #[.pointer (some ⟨b,0,none⟩)] w fun e w'=>e= .returned (.tuple #[.agg #[x,y],.bool true])∧
   (∃f' C',Jd 192 73 2 w' b g size n f' c C'∧Wheel C' (f'*2) F)∧Kept (fun i=>i=b∨i=g) w w':=by
 have yV:=fun W (hW:Hid (Jd 192 73 2 W b g size n f (c+1) C))=>fy b g size n f (c+1) 0 C (x::y::F) x y W hW.out hw (by simp [hF]; omega) ZI ZI o1 o2
 have HR0:=Za hr;have hr0:=Za (hr.kept (S:=fun _=>False) ((ZH _ w).alloc (.cells #[.int .i64 0,.int .i64 0] 73)) id id);obtain ⟨B1,B2,hC,cV,Sf,Nn,hs⟩:=hr;have O0:=B1.lt;have yK:=B2.lt;have mJ:=Za yV;have Ek:=Za B1;have UJ:=Za B2;have HC:=Za hC;have HW:=Za hw;have HF:=Za hF;obtain ⟨s,hsv⟩ : ∃s:Nat,(f+1)%n=s:=⟨_,rfl⟩;have DY:s < n:=by exact sA
 have VM: ∀W:Zc,W.cell? ⟨b,1,none⟩=some (.slice (some ⟨g,0,none⟩) n n)→W.cell? ⟨b,2,none⟩=some (.int .i64 f)→Zj Zb 202 #[.pointer (some ⟨b,0,none⟩),.int .i64 1] W fun e w'=>e= .returned (.int .i64 s)∧ ∃m,w'=W.drewN m:=fun W x1 x2=>by
  have:=r2_slot_any b n f 1 _ n W x1 x2 Zm Zm Zm;rwa [hsv] at this
 have IF:=Za VM;have sK:=Za hsv;clear VM hsv yV B1 B2 hC hw hF;go_enter Tryz.func316,Tryz.ntmps316;go_wp2_with fail;refine (mJ.out _ hr0).mono ?_;rintro e w1 ⟨rfl,hB⟩;have hz:w.heap.size+1≤w1.heap.size:=by have:=hB.size; simpa using this
 have hR:Blk w1 w.heap.size 73 #[.int .i64 0,.int .i64 0]:=Blk.below (Zv w _ _) hB ZI;have HB:Hid (Zs w.heap.size w w1):=Za (((Zp _ _).alloc (Zg _) _).trans (hB.mono ZI));have HR:=Za hR;clear hB hR;go_wp2_with (first
  | (refine Zo rfl _ _ _ rfl w1.heap.size #[x,y] rfl rfl 73 _ (Zv w1 _ _) Ye rfl (Ph o1 o2) ?_; rw [Zu]))
 have iz:Kept (fun _=>False) w (w1.alloc (.cells #[x,y] 73)):=(YP HB.out).alloc _;obtain ⟨d0,d1,d2,d3,-,fz2,oS⟩:=(HR0.out.kept iz id id).cells;have Ek:=Za (Ek.out.kept iz id);have UJ:=Za (UJ.out.kept iz id);have Zad:=Za (HR.out.alloc (.cells #[x,y] 73));have HX:=Za (Zv w1 73 #[x,y]);have HKW:=Za iz;have Er:w1.heap.size < (w1.alloc (.cells #[x,y] 73)).heap.size:=by simp
 clear iz HR HB;generalize w1.alloc (.cells #[x,y] 73)=w2 at*;refine wqT 14 ?_;refine BA ?_
 repeat (go_big_quiet_step (fail))
 refine Qc ?_;intro _ JB;obtain ⟨nr,Xh⟩:=JB;subst Xh;refine EB rfl (.tmp 27) _ rfl 73 Tryz.underlying48 (.agg #[.int .i64 0,.int .i64 0]) (fun _=>by kernel_rfl) YU g (f*2) 1 (n - f) rfl Zm C 73 UJ.out gu ?_;intro W1 HD1 K1;have OZ: ¬b=g:=Blk.ne_ Ek.out UJ.out YU;have EG:Hid (Blk W1 b 192 #[.int .i64 size,.slice (some ⟨g,0,none⟩) n n,.int .i64 f,.int .i64 ((c+1:Nat) :Int)]):=Za (QR (w:=w2.drewN nr) Ek.out K1 OZ);have x1:=EG.out.cell 1;have x2:=EG.out.cell 2;have x3:W1.cell? ⟨b,3,none⟩=some (.int .i64 ((c:Int)+1)):=EG.out.cell 3;have y2:=EG.out.frozen 2;have y3:=EG.out.frozen 3;have nt:=Za (QR (w:=w2.drewN nr) Zad.out K1 Zm);have cP:=Za (QR (w:=w2.drewN nr) HX.out K1 Zm);have L4:=Za K1;clear K1 d0 d1 d2 d3 fz2 oS;go_wp2_with fail;refine (IF.out _ x1 x2).mono ?_;rintro e w' ⟨rfl,q2,rfl⟩;have aM:w1.heap.size≠b:=by omega
 have ee:w.heap.size≠b:=by omega
 have dd:=Za (JD (JD (cP.out.drewN q2) (p:=⟨b,2,none⟩) aM (.int .i64 s)) (p:=⟨b,3,none⟩) aM (.int .i64 c));have IE:=Za (JD (JD (nt.out.drewN q2) (p:=⟨b,2,none⟩) ee (.int .i64 s)) (p:=⟨b,3,none⟩) ee (.int .i64 c));go_wp2_with (first
  | (refine wpList_load_row rfl _ _ rfl w1.heap.size rfl 73 #[x,y] (0,0) _ dd.out XW rfl Ye ?_)
  | (refine Zo rfl _ _ _ rfl w.heap.size #[x,y] rfl rfl 73 _ IE.out Ye rfl (Ph o1 o2) ?_))
 refine ZL (v:= .tuple #[.agg #[x,y],.bool true]) (XY (fn:=Tryz.f316) rfl _ _ w.heap.size 73 _ (0,0) _ rfl (QS IE.out _) XW rfl Ye) rfl ?_;refine ⟨rfl,⟨s,_,⟨Blk.setRow_far ?_ (QD ee) _,Blk.setRow_far (JD (JD (HD1.out) (QD OZ) _) (QD OZ) _) Zm _,?_,DY,by omega,Nn,hs⟩,?_⟩,?_⟩
 ·exact r9
 ·exact rL
 ·have hZ:(Xb (Yq (.agg #[.int .i64 0,.int .i64 0])) 1).toList.length=2:=by simp [Xb,Yq]
  generalize (Xb (Yq (.agg #[.int .i64 0,.int .i64 0])) 1).toList=Z at*;exact ZfT
 ·exact ZfV
theorem lL (b size c:Nat)(go:Option Nat)(F:List Zl)(x y:Zl)(w:Zc)(hi:RingAt 192 73 2 w b go size (c+1) (x::y::F)) :
  Zj Zb 316 #[.pointer (some ⟨b,0,none⟩)] w fun e w'=>e= .returned (.tuple #[.agg #[x,y],.bool true])∧RingAt 192 73 2 w' b go size c F∧Kept (Foot b go) w w':=by
 obtain ⟨hF,hF1,⟨rfl,h0,_⟩ | ⟨g,n,f,C,rfl,h3,h4⟩⟩:=hi
 ·omega
 ·have hl:F.length=c*2:=by exact sB
  exact (lM b g size n f c C F x y w h3 h4 hl (hF1 _ ZI) (hF1 _ ZI)).mono fun e w' ⟨he,⟨f',C',k1,k2⟩,k3⟩=>
   ⟨he,k1.at_ k2 hl (fun x hx=>hF1 x (Vc _ (Vc _ hx))),k3.more fun i _ hi=>hi.elim .inl (fun e=> .inr ED)⟩
end
section
open Go Go.RowKit Go.Deep
theorem Po {x y:Zl}(o1:x.oneCell'=true)(o2:y.oneCell'=true) :(#[x,y] :Array Zl).all (·.oneCell')=true:=by simp [o1,o2]
theorem fM (b g size n f c i:Nat)(C F:List Zl)(x y:Zl)(w:Zc)(hr:Jd 195 75 2 w b g size n f c C)(hw:Wheel C (f*2) F)(hF:F.length=c*2)(hx:F[i*2]?=some x)(hy:F[i*2+1]?=some y)(o1:x.oneCell'=true)(o2:y.oneCell'=true) :
  Zj Zb 318 #[.pointer (some ⟨b,0,none⟩),.int .i64 i] w fun e w'=>e= .returned (.tuple #[.agg #[x,y],.bool true])∧Zs w.heap.size w w':=by
 obtain ⟨-,d1,d2,d3,-,-,-⟩:=hr.cells;obtain ⟨B1,B2,hC,cV,Sf,Nn,hs⟩:=hr;have hic:i < c:=by
  exact zo
 have hi1: ¬(i:Int)< 0:=by omega
 have UR: ¬(c:Int)≤(i:Int):=by omega
 obtain ⟨p,hp⟩ : ∃p:Nat,(f+i)%n=p:=⟨_,rfl⟩;have N0:p < n:=by exact sD
 have GS:w.cell? ⟨g,p*2,none⟩=some x:=by
  exact ZgD
 have Ct:w.cell? ⟨g,p*2+1,none⟩=some y:=by
  exact ZfQ
 have VM: ∀W:Zc,W.cell? ⟨b,1,none⟩=some (.slice (some ⟨g,0,none⟩) n n)→W.cell? ⟨b,2,none⟩=some (.int .i64 f)→Zj Zb 207 #[.pointer (some ⟨b,0,none⟩),.int .i64 i] W fun e w'=>e= .returned (.int .i64 p)∧ ∃m,w'=W.drewN m:=fun W x1 x2=>by
  have:=rq_slot_any b n f i _ n W x1 x2 Zm Zm Zm;rwa [hp] at this
 have yK:=B2.lt;have O0:=B1.lt;have hra:(w.alloc (.cells #[.int .i64 0,.int .u64 0] 75)).rangeAt g (p*2) [x,y]:=fun j v hv=>by
  exact Zf7
 have HRA:=Za hra;have IF:=Za VM;have e1:=QU (.cells #[.int .i64 0,.int .u64 0] 75) d1;have e2:=QU (.cells #[.int .i64 0,.int .u64 0] 75) d2;clear VM hp B1 B2 hC hw hF hx hy hra GS Ct;go_enter Tryz.func318,Tryz.ntmps318;go_wp2_with fail;refine (Tf _ c _ (QU _ d3)).mono ?_;rintro e w' ⟨rfl,rfl⟩;go_wp2;refine wqT 9 ?_;refine BA ?_;iterate 8 (go_big_quiet_step ((go_at_call 207; exact Qw (IF.out _ e1 e2))))
 refine CO (.agg #[x,y]) rfl (fun W hW=>?_) ?_
 ·obtain ⟨q,rfl⟩:=hW;have hl:=run_loadAt_mid (P:=Zb) ((w.alloc (.cells #[.int .i64 0,.int .u64 0] 75)).drewN q) g (p*2) 75 [x,y] _ HRA.out Z3 rfl Ye;unfold Xn;simp only [Act.eval,Yi]
  erw [hl]
  rfl
 refine Qc ?_;intro _ JB;obtain ⟨nr,Xh⟩:=JB;subst Xh;refine Zo rfl _ _ _ rfl w.heap.size #[x,y] rfl rfl 75 _ (Xy (Zv w _ _) nr) Ye rfl (by simp [o1,o2]) ?_;have HB:Hid (Blk ((((w.alloc (.cells #[.int .i64 0,.int .u64 0] 75)).drewN nr)).setRow w.heap.size #[x,y]) w.heap.size 75 #[x,y]):=Za (QS (Xy (Zv w _ _) nr) _);have HL:Hid (Zs w.heap.size w ((((w.alloc (.cells #[.int .i64 0,.int .u64 0] 75)).drewN nr)).setRow w.heap.size #[x,y])):=Za (below_setRow (below_drewN ((Zp _ _).alloc (Zg _) _) nr) (Zg _) _);go_wp2;refine ZL (v:= .tuple #[.agg #[x,y],.bool true]) (XY (fn:=Tryz.f318) rfl _ _ w.heap.size 75 _ (0,0) _ rfl HB.out Z3 rfl Ye) rfl ⟨rfl,HL.out⟩
theorem lV (b g size n f c:Nat)(C F:List Zl)(x y:Zl)(w:Zc)(hr:Jd 195 75 2 w b g size n f (c+1) C)(hw:Wheel C (f*2) (x::y::F))(hF:F.length=c*2)(o1:x.oneCell'=true)(o2:y.oneCell'=true) :
  Zj Zb 301 #[.pointer (some ⟨b,0,none⟩)] w fun e w'=>e= .returned (.tuple #[.agg #[x,y],.bool true])∧
   (∃f' C',Jd 195 75 2 w' b g size n f' c C'∧Wheel C' (f'*2) F)∧Kept (fun i=>i=b∨i=g) w w':=by
 have yV:=fun W (hW:Hid (Jd 195 75 2 W b g size n f (c+1) C))=>fM b g size n f (c+1) 0 C (x::y::F) x y W hW.out hw (by simp [hF]; omega) ZI ZI o1 o2
 have HR0:=Za hr;have hr0:=Za (hr.kept (S:=fun _=>False) ((ZH _ w).alloc (.cells #[.int .i64 0,.int .u64 0] 75)) id id);obtain ⟨B1,B2,hC,cV,Sf,Nn,hs⟩:=hr;have O0:=B1.lt;have yK:=B2.lt;have mJ:=Za yV;have Ek:=Za B1;have UJ:=Za B2;have HC:=Za hC;have HW:=Za hw;have HF:=Za hF;obtain ⟨s,hsv⟩ : ∃s:Nat,(f+1)%n=s:=⟨_,rfl⟩;have DY:s < n:=by exact sA
 have VM: ∀W:Zc,W.cell? ⟨b,1,none⟩=some (.slice (some ⟨g,0,none⟩) n n)→W.cell? ⟨b,2,none⟩=some (.int .i64 f)→Zj Zb 207 #[.pointer (some ⟨b,0,none⟩),.int .i64 1] W fun e w'=>e= .returned (.int .i64 s)∧ ∃m,w'=W.drewN m:=fun W x1 x2=>by
  have:=rq_slot_any b n f 1 _ n W x1 x2 Zm Zm Zm;rwa [hsv] at this
 have IF:=Za VM;have sK:=Za hsv;clear VM hsv yV B1 B2 hC hw hF;go_enter Tryz.func301,Tryz.ntmps301;go_wp2_with fail;refine (mJ.out _ hr0).mono ?_;rintro e w1 ⟨rfl,hB⟩;have hz:w.heap.size+1≤w1.heap.size:=by have:=hB.size; simpa using this
 have hR:Blk w1 w.heap.size 75 #[.int .i64 0,.int .u64 0]:=Blk.below (Zv w _ _) hB ZI;have HB:Hid (Zs w.heap.size w w1):=Za (((Zp _ _).alloc (Zg _) _).trans (hB.mono ZI));have HR:=Za hR;clear hB hR;go_wp2_with (first
  | (refine Zo rfl _ _ _ rfl w1.heap.size #[x,y] rfl rfl 75 _ (Zv w1 _ _) Ye rfl (Po o1 o2) ?_; rw [Zu]))
 have iz:Kept (fun _=>False) w (w1.alloc (.cells #[x,y] 75)):=(YP HB.out).alloc _;obtain ⟨d0,d1,d2,d3,-,fz2,oS⟩:=(HR0.out.kept iz id id).cells;have Ek:=Za (Ek.out.kept iz id);have UJ:=Za (UJ.out.kept iz id);have Zad:=Za (HR.out.alloc (.cells #[x,y] 75));have HX:=Za (Zv w1 75 #[x,y]);have HKW:=Za iz;have Er:w1.heap.size < (w1.alloc (.cells #[x,y] 75)).heap.size:=by simp
 clear iz HR HB;generalize w1.alloc (.cells #[x,y] 75)=w2 at*;refine wqT 14 ?_;refine BA ?_
 repeat (go_big_quiet_step (fail))
 refine Qc ?_;intro _ JB;obtain ⟨nr,Xh⟩:=JB;subst Xh;refine EB rfl (.tmp 27) _ rfl 75 Xq (.agg #[.int .i64 0,.int .u64 0]) (fun _=>by kernel_rfl) YU g (f*2) 1 (n - f) rfl Zm C 75 UJ.out gu ?_;intro W1 HD1 K1;have OZ: ¬b=g:=Blk.ne_ Ek.out UJ.out YU;have EG:Hid (Blk W1 b 195 #[.int .i64 size,.slice (some ⟨g,0,none⟩) n n,.int .i64 f,.int .i64 ((c+1:Nat) :Int)]):=Za (QR (w:=w2.drewN nr) Ek.out K1 OZ);have x1:=EG.out.cell 1;have x2:=EG.out.cell 2;have x3:W1.cell? ⟨b,3,none⟩=some (.int .i64 ((c:Int)+1)):=EG.out.cell 3;have y2:=EG.out.frozen 2;have y3:=EG.out.frozen 3;have nt:=Za (QR (w:=w2.drewN nr) Zad.out K1 Zm);have cP:=Za (QR (w:=w2.drewN nr) HX.out K1 Zm);have L4:=Za K1;clear K1 d0 d1 d2 d3 fz2 oS;go_wp2_with fail;refine (IF.out _ x1 x2).mono ?_;rintro e w' ⟨rfl,q2,rfl⟩;have aM:w1.heap.size≠b:=by omega
 have ee:w.heap.size≠b:=by omega
 have dd:=Za (JD (JD (cP.out.drewN q2) (p:=⟨b,2,none⟩) aM (.int .i64 s)) (p:=⟨b,3,none⟩) aM (.int .i64 c));have IE:=Za (JD (JD (nt.out.drewN q2) (p:=⟨b,2,none⟩) ee (.int .i64 s)) (p:=⟨b,3,none⟩) ee (.int .i64 c));go_wp2_with (first
  | (refine wpList_load_row rfl _ _ rfl w1.heap.size rfl 75 #[x,y] (0,0) _ dd.out Z3 rfl Ye ?_)
  | (refine Zo rfl _ _ _ rfl w.heap.size #[x,y] rfl rfl 75 _ IE.out Ye rfl (Po o1 o2) ?_))
 refine ZL (v:= .tuple #[.agg #[x,y],.bool true]) (XY (fn:=Tryz.f301) rfl _ _ w.heap.size 75 _ (0,0) _ rfl (QS IE.out _) Z3 rfl Ye) rfl ?_;refine ⟨rfl,⟨s,_,⟨Blk.setRow_far ?_ (QD ee) _,Blk.setRow_far (JD (JD (HD1.out) (QD OZ) _) (QD OZ) _) Zm _,?_,DY,by omega,Nn,hs⟩,?_⟩,?_⟩
 ·exact r9
 ·exact rL
 ·have hZ:(Xb (Yq (.agg #[.int .i64 0,.int .u64 0])) 1).toList.length=2:=by simp [Xb,Yq]
  generalize (Xb (Yq (.agg #[.int .i64 0,.int .u64 0])) 1).toList=Z at*;exact ZfT
 ·exact ZfV
theorem lU (b size c:Nat)(go:Option Nat)(F:List Zl)(x y:Zl)(w:Zc)(hi:RingAt 195 75 2 w b go size (c+1) (x::y::F)) :
  Zj Zb 301 #[.pointer (some ⟨b,0,none⟩)] w fun e w'=>e= .returned (.tuple #[.agg #[x,y],.bool true])∧RingAt 195 75 2 w' b go size c F∧Kept (Foot b go) w w':=by
 obtain ⟨hF,hF1,⟨rfl,h0,_⟩ | ⟨g,n,f,C,rfl,h3,h4⟩⟩:=hi
 ·omega
 ·have hl:F.length=c*2:=by exact sB
  exact (lV b g size n f c C F x y w h3 h4 hl (hF1 _ ZI) (hF1 _ ZI)).mono fun e w' ⟨he,⟨f',C',k1,k2⟩,k3⟩=>
   ⟨he,k1.at_ k2 hl (fun x hx=>hF1 x (Vc _ (Vc _ hx))),k3.more fun i _ hi=>hi.elim .inl (fun e=> .inr ED)⟩
end
section
open Go Go.RowKit Go.Deep
theorem zh {C:Zc→Prop}{Qa:Act→Prop}{ops:Array Oper}{rest:List Oper}{a:Act}{dst:Option Tmp}{yt ty:ZN}{x y:Yz}{pos:String}{after:Array Edge}{guard:Option (Nat × Bool)}(p q:Yd)(r:Bool)(hw:YQ { dst,op:= .binOp .neq 63 x y yt,type:=ty,pos,after,guard} (JF ops a.tmps)=true)(hx:a.eval x= .agg (Zd p))(hy:a.eval y= .agg (Zd q))(hr:(!decide (p=q))=r)
  (h:ZW Zb ops C Qa rest (a.put dst (.bool r))) :ZW Zb ops C Qa ({ dst,op:= .binOp .neq 63 x y yt,type:=ty,pos,after,guard}::rest) a:=
 Gm (.bool r) hw (fun w=>oL hx hy hr) h
end
end Go.Proofs.YtianiiijaopdpaaGreat
