/- Part 3 of 58: Words Class L06Add Same L02Base L03Cfg L09Cyc L10Num L14Bat L02Clock. -/
import Derived.Test.YtianiiijaopdpaaGreatZu00
import Derived.BigQuiet
import Derived.Lib.Hide
import Derived.OpenShut
import Derived.Test.YtianiiijaopdpaaGreatChecked
import Derived.WalkSmall
namespace Go.Proofs.YtianiiijaopdpaaGreat
set_option linter.unusedVariables false
set_option linter.unusedSimpArgs false
set_option maxRecDepth 100000
set_option maxHeartbeats 8000000
open _root_.Array renaming getElem?_eq_none → VD
open _root_.Go.RowKit renaming Below → Zt
open _root_.Go.RowKit.Below renaming heap_alloc → Ko, heap_setCell → Xu
open _root_.Go renaming Calls → Zi, Program → YZ, TypeId → ZT, Value → Zo, World → Zc, execOp → Xr, wpList → YU, wpQuiet → ZB, yielded → J2
open _root_.Go.Ending renaming returned → XY
open _root_.Int renaming ediv_le_self → Kp, ediv_nonneg → KI
open _root_.Go.Lib renaming hid → Za
open _root_.List renaming length_cons → Yu, mem_singleton → Y5
open _root_.Nat renaming add_assoc → Jy, div_add_mod → Ka, eq_zero_or_pos → QV, le_refl → Zg, le_trans → Yk, lt_of_lt_of_le → Yp, lt_or_ge → YA
open _root_.Go.Oper renaming quietAt → VI
open _root_.Go.Region renaming wanted → Xc
open _root_.Go.Proofs.Tryz renaming prog → Zb
theorem IU {G:Prop}(h:G:=by simpa using h) :G:=h
theorem ZO {G:Prop}(h:G:=by simp) :G:=h
theorem Yi {G:Prop}(h:G:=by kernel_rfl) :G:=h
theorem Zp {G:Prop}(h:G:=by omega) :G:=h
theorem Zgv {G:Prop} (h:G:=by
  clear h0 h1 h2 h3;generalize ceilQ a d=q at*;go_enter Tryz.func333,Tryz.ntmps333;go_wp2_with fail;refine (H.out _).mono ?_;rintro e w' ⟨rfl,rfl⟩;go_wp2;go_ret2;exact ⟨rfl,rfl⟩) :G:=h
theorem ZgO {G:Prop} (h:G:=by
  have:=sumTo_mono (fun i=>(HZ.out i).1) (k+1) (len -(k+1));rw [show k+1+(len -(k+1))=len by omega,HS.out] at this;omega) :G:=h
theorem Zg0 {G:Prop} (h:G:=by
  have:=Nat.mul_le_mul_left n (Nat.succ_le_of_lt hc);rw [Nat.succ_eq_add_one,Nat.mul_add,Nat.mul_one] at this;omega) :G:=h
theorem Zg3 {G:Prop} (h:G:=by
  have HF:=Lib.hid hf;clear hf;go_enter Tryz.func334,Tryz.ntmps334;go_wp2;go_ret2;exact ⟨by rw [HF.out]; rfl,rfl⟩) :G:=h
theorem Zdu {G:Prop} (h:G:=by
  have HF:=Lib.hid hf;clear hf;go_enter Tryz.func211,Tryz.ntmps211;go_wp2;go_ret;exact ⟨by rw [HF.out]; rfl,rfl⟩) :G:=h
theorem sR {G:Prop} (h:G:=by
  go_enter Tryz.func155,Tryz.ntmps155;go_wp2;go_ret;exact ⟨by rw [H.out]; rfl,rfl⟩) :G:=h
theorem tc {G:Prop} (h:G:=by
  go_enter Tryz.func282,Tryz.ntmps282;go_wp2;go_ret;exact ⟨rfl,rfl⟩) :G:=h
theorem dy {G:Prop} (h:G:=by
  go_wp2;go_ret;exact ⟨rfl,_,rfl⟩) :G:=h
theorem TY {G:Prop} (h:G:=by
  go_wp2;go_ret2;exact ⟨rfl,rfl⟩) :G:=h
theorem Vr {G:Prop} (h:G:=by
  go_wp2;go_ret;exact ⟨rfl,rfl⟩) :G:=h
theorem Uz {G:Prop} (h:G:=by
  simp [intOf];omega) :G:=h
theorem BV {G:Prop} (h:G:=by
  exact ⟨rfl,rfl⟩) :G:=h
section
open Go.RowKit
theorem Rh (a b:Int) :min a b=if b < a then b else a:=by omega
theorem CX (a b:Int) :max a b=if a < b then b else a:=by omega
def Zy (w:Zc)(g:Nat)(t:ZT)(cs:Array Zo) :Prop:=w.heap[g]?=some (.cells cs t (0,0))
section
variable {w w':Zc} {g:Nat} {t:ZT} {cs:Array Zo}
theorem Zy.lt (h:Zy w g t cs) :g < w.heap.size:=by
 rcases YA g w.heap.size with XJ | hge
 ·exact XJ
 ·unfold Zy at h; rw [VD hge] at h; cases h
theorem Zy.cell (h:Zy w g t cs)(i:Nat) :w.cell? ⟨g,i,none⟩=cs[i]?:=cell_of_row w g i cs t (0,0) h
theorem Zy.frozen (h:Zy w g t cs)(i:Nat) :w.frozen? ⟨g,i,none⟩=false:=by
 unfold Zy at h;simp [World.frozen?,h]
theorem Zy.new (w:Zc)(t:ZT)(cs:Array Zo) :Zy (w.alloc (.cells cs t)) w.heap.size t cs:=heap_alloc_new w _
theorem Zy.drew (h:Zy w g t cs) :Zy w.drew g t cs:=h
theorem Zy.drewN (h:Zy w g t cs)(n:Nat) :Zy (w.drewN n) g t cs:=h
theorem Zy.alloc (h:Zy w g t cs)(o:Obj) :Zy (w.alloc o) g t cs:=(Ko w o g h.lt).trans h
theorem Zy.set_ (h:Zy w g t cs)(i:Nat)(u:Zo) :Zy (w.setCell ⟨g,i,none⟩ u) g t (cs.setIfInBounds i u):=by
 unfold Zy at h ⊢;simp [World.setCell,Array.getElem?_modify,h]
theorem Zy.far (h:Zy w g t cs){p:Addr}(hp:g≠p.block)(u:Zo) :Zy (w.setCell p u) g t cs:=(Xu w p u g hp).trans h
theorem Zy.below {B:Nat}(h:Zy w g t cs)(hb:Zt B w w')(hg:g < B) :Zy w' g t cs:=(hb.block g hg).trans h
theorem Zy.grown {row:Option Nat}(h:Zy w g t cs)(hb:w.grownBy w' row)(hg:some g≠row) :Zy w' g t cs:=(hb.block g h.lt hg).trans h
end
section
variable {P:YZ} {f:FuncId} {args:Array Zo} {w:Zc} {a n:Nat} {v:Zo}
theorem GJ (h:Zi P f args (w.drewN n) fun e w'=>e= .returned v∧w.drewN n=w') :Zi P f args (w.drewN n) fun e w''=>e= .returned v∧ ∃m,w''=w.drewN m:=
 h.mono fun _ _ ⟨he,hm⟩=>⟨he,n,hm.symm⟩
end
theorem JV (a:Zc)(row:Option Nat) :a.grownBy a row:=⟨rfl,rfl,rfl,Zg _,fun _ _ _=>rfl⟩
theorem SU {a b c:Zc}{row:Option Nat}(h:a.grownBy b row)(k:b.grownBy c row) :a.grownBy c row:=
 ⟨k.os.trans h.os,k.tape.trans h.tape,k.output.trans h.output,Yk h.size k.size,fun i hi hn=>(k.block i (Yp hi h.size) hn).trans (h.block i hi hn)⟩
theorem VM {a w:Zc}{row:Option Nat}(h:a.grownBy w row)(n:Nat) :a.grownBy (w.drewN n) row:=⟨h.os,h.tape,h.output,h.size,h.block⟩
theorem Ay {a w:Zc}{row:Option Nat}(h:a.grownBy w row) :a.grownBy w.drew row:=⟨h.os,h.tape,h.output,h.size,h.block⟩
theorem DA {a w:Zc}{row:Option Nat}(h:a.grownBy w row)(o:Obj) :a.grownBy (w.alloc o) row:=
 ⟨h.os,h.tape,h.output,Yk h.size ZO,fun i hi Kt=>(Ko w o i (Yp hi h.size)).trans (h.block i hi Kt)⟩
theorem QK {a w:Zc}{g:Nat}(h:a.grownBy w (some g)){p:Addr}(hp:p.block=g∨a.heap.size≤p.block)(u:Zo) :a.grownBy (w.setCell p u) (some g):=
 ⟨h.os,h.tape,h.output,by simpa [World.setCell] using h.size,fun i hi Kt=>(Xu w p u i (by
  rintro rfl
  rcases hp with hp | hp
  ·exact Kt (by rw [hp])
  ·omega)).trans (h.block i hi Kt)⟩
theorem Eo {a w:Zc}(h:Zt a.heap.size a w)(row:Option Nat) :a.grownBy w row:=⟨h.os,h.tape,h.output,h.size,fun i hi _=>h.block i hi⟩
theorem Bo {B g:Nat}{a w w':Zc}(h:Zt B a w)(hg:w.grownBy w' (some g))(hB:B≤w.heap.size)(hr:B≤g) :Zt B a w':=
 h.grown hg hB (fun k hk=>by injection hk with hk; omega)
theorem add_plain (b off i:Nat) :(⟨b,off,none⟩ :Addr).add i=⟨b,off+i,none⟩:=by
 unfold Addr.add
 by_cases h:i=0 <;> simp [h]
theorem UH {w:Zc}{p:Addr}{v:Zo}(h:w.cell? p=some v) :p.block < w.heap.size:=by
 rcases YA p.block w.heap.size with hl | hl
 ·exact hl
 ·simp [World.cell?,VD hl] at h
theorem FE {k:IntKind}{a b:Int}(h:a=b) :XY (.int k a)= .returned (.int k b):=by rw [h]
theorem JR {a b:Bool}(h:a=b) :XY (.bool a)= .returned (.bool b):=by rw [h]
end
section
open Go.RowKit
section
variable {P:YZ} {ops:Array Oper} {C:Zc→Prop} {Q:Act→Prop} {a:Act} {o:Oper} {rest:List Oper}
theorem GU (v:Zo)(hw:Xc o (J2 ops a.tmps)=true)(hv: ∀w,(Xr a.eval o).run P w= .ok (.value v) w)(h:ZB P ops C Q rest (a.put o.dst v)) :ZB P ops C Q (o::rest) a:=by
 unfold ZB;rw [if_pos hw];exact ⟨v,fun w _=>by unfold VI; rw [hv]; exact ⟨rfl,rfl⟩,h⟩
theorem Ig (v:Zo)(hw:Xc o (J2 ops a.tmps)=true)(hv: ∀w,C w→(Xr a.eval o).run P w= .ok (.value v) w)(h:ZB P ops C Q rest (a.put o.dst v)) :ZB P ops C Q (o::rest) a:=by
 unfold ZB;rw [if_pos hw];exact ⟨v,fun w hc=>by unfold VI; rw [hv w hc]; exact ⟨rfl,rfl⟩,h⟩
theorem Qg (ty:ZT)(x:Operand)(b:Nat)(t:ZT)(cs:Array Zo)(d:TypeDesc)(hw:Xc o (J2 ops a.tmps)=true)(ho:o.op= .load ty x)(hx:a.eval x= .pointer (some ⟨b,0,none⟩))
  (hC: ∀w,C w→Zy w b t cs) (hu:P.underlying ty=some d) (hd:(match d with | .struct _ | .array _ _=>true | _=>false)=true) (hi:(P.info? ty).map (·.size)=some cs.size)
  (h:ZB P ops C Q rest (a.put o.dst (.agg cs))) :ZB P ops C Q (o::rest) a:=by
 refine Ig (.agg cs) hw (fun w hc=>?_) h;unfold Xr;simp only [ho,hx,Instr.loadAt,Instr.sureAddr,Sem.run_bind,Sem.run_pure,Result.andThen_ok,run_loadVar_row w b t ty cs (0,0) d (hC w hc) hu hd hi]
theorem OH {dst:Option Tmp}{f:FuncId}{xs:Array Operand}{u9:Array ZT}{ty:ZT}{pos:String}{after:Array Edge}{guard:Option (Nat × Bool)}(v:Zo)(vs:Array Zo)
  (hw:Xc { dst,op:= .call { callee:= .value (.func f),args:=xs,argTypes:=u9},type:=ty,pos,after,guard} (J2 ops a.tmps)=true)
  (zR: #[]++xs.map a.eval++ #[]=vs) (BT: ∀args w,(callFunc f args).run P w= .ok (.enter f args) w)
  (hC: ∀w,C w→Zi P f vs w fun e w'=>e= .returned v∧C w') (h:ZB P ops C Q rest (a.put dst v)) :
  ZB P ops C Q ({ dst,op:= .call { callee:= .value (.func f),args:=xs,argTypes:=u9},type:=ty,pos,after,guard}::rest) a:=by
 unfold ZB;rw [if_pos hw];refine ⟨v,fun w hc=>?_,h⟩;unfold VI;have e:Xr a.eval { dst,op:= .call { callee:= .value (.func f),args:=xs,argTypes:=u9},type:=ty,pos,after,guard}=callFunc f (#[]++xs.map a.eval++ #[]):=rfl;rw [e,BT,zR];exact ⟨rfl,hC w hc⟩
theorem XO {P:YZ}{id:Nat}{Q:Exit→Act→Zc→Prop}{a:Act}{w:Zc}{l:List Oper}(C:Zc→Prop)(hm:P.follows .mixedOrders=true)(hB:Region.lexB .any l.toArray=true)(hC:C w.drew)
  (h:ZB P l.toArray C (fun a'=> ∀w',C w'→Q .normal a' w') l a) :(Code.region id l.toArray true).wp P Q a w:=
 wp_region_quiet (C:=C) hm hB hC IU
end
section
variable {P:YZ} {ops:Array Oper} {Q:Exit→Act→Zc→Prop} {a:Act} {w:Zc} {rest:List Oper} {o:Oper}
theorem Fc (hw:Xc o (J2 ops a.tmps)=true)(ty:ZT)(x:Operand)(ho:o.op= .load ty x)
  (g:Nat) (hx:a.eval x= .pointer (some ⟨g,0,none⟩)) (t:ZT) (cs:Array Zo) (fr:Nat × Nat) (d:TypeDesc) (hg:w.heap[g]?=some (.cells cs t fr))
  (hu:P.underlying ty=some d) (hd:(match d with | .struct _ | .array _ _=>true | _=>false)=true) (hi:(P.info? ty).map (·.size)=some cs.size)
  (h:YU P ops Q rest (a.put o.dst (.agg cs)) w) :YU P ops Q (o::rest) a w:=by
 unfold YU;rw [if_pos hw];exact .inl (wp_load_row ty x ho g hx t cs fr d hg hu hd hi h)
theorem Ec (v:Zo)(hw:Xc o (J2 ops a.tmps)=true)(hv:(Xr a.eval o).run P w= .ok (.value v) w)(h:YU P ops Q rest (a.put o.dst v) w) :YU P ops Q (o::rest) a w:=by
 unfold YU;rw [if_pos hw];refine .inl ?_;unfold Oper.wp;rw [hv];exact h
end
def Vx (B b t:Nat)(cs:Array Zo)(w w':Zc) :Prop:=Zy w' b t cs∧Zt B w w'∧B≤w'.heap.size
theorem Vx.call {P:YZ}{f:FuncId}{vs:Array Zo}{v:Zo}{B b t:Nat}{cs:Array Zo}{w0 w:Zc}(hk:Vx B b t cs w0 w)
  (h:Zi P f vs w fun e w'=>e= .returned v∧Zt w.heap.size w w') :Zi P f vs w fun e w'=>e= .returned v∧Vx B b t cs w0 w':=
 h.mono fun _ _ ⟨he,hb⟩=>⟨he,hk.1.below hb hk.1.lt,hk.2.1.trans (hb.mono hk.2.2),Yk hk.2.2 hb.size⟩
theorem Vx.drew {B b t:Nat}{cs:Array Zo}{w0 w:Zc}(hk:Vx B b t cs w0 w) :Vx B b t cs w0 w.drew:=⟨hk.1,hk.2.1.drew,hk.2.2⟩
theorem Vx.new {B t:Nat}{cs:Array Zo}{w0 w:Zc}(hk:Zt B w0 w)(hB:B≤w.heap.size) :Vx B w.heap.size t cs w0 (w.alloc (.cells cs t)):=
 ⟨Zy.new w t cs,hk.alloc hB _,by simp; omega⟩
theorem Vx.alloc {B b t:Nat}{cs:Array Zo}{w0 w:Zc}(hk:Vx B b t cs w0 w)(o:Obj) :Vx B b t cs w0 (w.alloc o):=⟨hk.1.alloc o,hk.2.1.alloc hk.2.2 o,by have:=hk.2.2; simp; omega⟩
theorem Vx.heap {B b t:Nat}{cs:Array Zo}{w0 w:Zc}(hk:Vx B b t cs w0 w) :w.heap[b]?=some (.cells cs t (0,0)):=hk.1
end
section
open Go.RowKit
def XT (z:List Int) :Nat→Int
 | 0=>0
 | k+1=>XT z k+z.getD k 0
def G9 (z:List Int)(n:Nat) :Bool:=decide (XT z n≤18446744073709551615)
def EG (z:List Int)(n:Nat) :Int:=if XT z n≤18446744073709551615 then XT z n else 0
theorem Fl {z:List Int}{n:Nat}(h:XT z n≤18446744073709551615) :G9 z n=true∧EG z n=XT z n:=⟨decide_eq_true h,if_pos h⟩
theorem Nd {z:List Int}{n:Nat}(h: ¬XT z n≤18446744073709551615) :G9 z n=false∧EG z n=0:=⟨decide_eq_false h,if_neg h⟩
theorem Bh {z:List Int}(hz: ∀i,0≤z.getD i 0) : ∀n,0≤XT z n
 | 0=>Int.le_refl _
 | k+1=>by have:=Bh hz k; have:=hz k; simp only [XT]; omega
theorem sumTo_mono {z:List Int}(hz: ∀i,0≤z.getD i 0)(a:Nat) : ∀d,XT z a≤XT z (a+d)
 | 0=>Int.le_refl _
 | d+1=>by have:=sumTo_mono hz a d; have:=hz (a+d); rw [←Jy]; simp only [XT]; omega
theorem kC (x y:Int)(h0:0≤x)(h1:x≤18446744073709551615)(h2:0≤y)(h3:y≤18446744073709551615)(w:Zc) :
  (callFunc 68 #[.int .u64 x,.int .u64 y,.int .u64 0]).run Zb w=
   .ok (.value (.tuple #[.int .u64 ((x+y)%18446744073709551616),.int .u64 ((x+y)/18446744073709551616)])) w:=by
 rw [run_callFunc_extern Tryz.func68 Yi Yi Yi (e:=add64Entry) Yi,run_add64 x y 0 Zp Zp Zp Zp];simp only [Result.andThen,Int.add_zero]
theorem Tg (w:Zc) :Zi Zb 116 #[] w fun e w'=>e= .returned (.int .u64 18446744073709551615)∧w=w':=by
 go_enter Tryz.func116,Tryz.ntmps116;exact Vr
theorem cI (a:Option Addr)(cap:Nat)(w:Zc) :
  Zi Zb 66 #[.slice a 0 cap] w fun e w'=>e= .returned (.tuple #[.int .u64 0,.bool true])∧w=w':=by
 go_enter Tryz.func66,Tryz.ntmps66;go_wp2;go_loop [4,5] (fun s4 s5=>s4= .int .u64 0∧s5= .int .i64 0) (fun _ _=>0)
 case atStart=>exact BV
 case round=>
  obtain ⟨rfl,rfl⟩:=hrel;exact TY
theorem Fk (b off len cap:Nat)(z:List Int)(w:Zc)(hlen:len≤9223372036854775807)
  (hc: ∀i,i < len→w.cell? ⟨b,off+i,none⟩=some (.int .u64 (z.getD i 0))) (hz: ∀i,0≤z.getD i 0∧z.getD i 0≤18446744073709551615) :
  Zi Zb 23 #[.slice (some ⟨b,off,none⟩) len cap] w fun e w'=>e= .returned (.tuple #[.int .u64 (EG z len),.bool (G9 z len)])∧w=w':=by
 have hn:=Bh (fun i=>(hz i).1);have HC:=Za hc;have HZ:=Za hz;have HN:=Za hn;clear hc hz hn;go_enter Tryz.func23,Tryz.ntmps23;go_wp2;go_loop [4,11] (fun s4 s11=> ∃(k:Nat) (t:Int),k≤len∧s11= .int .i64 k∧s4= .int .u64 t∧Hid (t=XT z k∧t≤18446744073709551615)) (fun _ s11=>len -(intOf s11).toNat)
 case atStart=>exact ⟨0,0,by omega,rfl,rfl,Za ⟨rfl,by omega⟩⟩
 case round=>
  obtain ⟨k,t,hk,rfl,rfl,HT⟩:=hrel;have t0:0≤t:=by rw [HT.out.1]; exact HN.out k
  have t1:=HT.out.2
  by_cases XJ:k < len
  ·have Gl:=HC.out k XJ;obtain ⟨y0,y1⟩:=HZ.out k;have hs:XT z (k+1)=t+z.getD k 0:=by rw [HT.out.1]; rfl
   generalize z.getD k 0=y at*;have HS:=Za hs;have hl:=fun w=>kC t y t0 t1 y0 y1 w
   by_cases EU:t+y≤18446744073709551615
   ·have e1:(t+y)%18446744073709551616=t+y:=by omega
    have e2:(t+y)/18446744073709551616=0:=by omega
    rw [e1,e2] at hl;clear e1 e2 hs;go_wp2;go_round
    case rel=>exact ⟨k+1,t+y,by omega,by go_num,rfl,Za ⟨HS.out.symm,EU⟩⟩
    case measure=>exact Uz
   ·have e2:(t+y)/18446744073709551616=1:=by omega
    have p4: ¬XT z len≤18446744073709551615:=by
     exact ZgO
    have HB:=Za (Nd p4);rw [e2] at hl;clear e2 hs p4;go_wp2;go_ret2;exact ⟨by rw [HB.out.1,HB.out.2]; rfl,rfl⟩
  ·obtain rfl:k=len:=by omega
   have HB:=Za (Fl (z:=z) (n:=k) (by rw [←HT.out.1]; exact t1));have HE:=Za HT.out.1;clear XJ;have XJ: ¬k < k:=by omega
   go_wp2;go_ret2;exact ⟨by rw [HB.out.1,HB.out.2,←HE.out]; rfl,rfl⟩
theorem Pv {P:YZ}{f:FuncId}{args:Array Zo}{w:Zc}{a n:Nat}{v:Zo}
  (h:Zi P f args (w.drewN (a+n)) fun e w'=>e= .returned v∧w.drewN (a+n)=w') :
  Zi P f args (w.drewN (a+n)) fun e w''=>e= .returned v∧ ∃m,w''=w.drewN (a+m):=
 h.mono fun _ _ ⟨he,hm⟩=>⟨he,n,hm.symm⟩
theorem gq (b off len cap:Nat)(z:List Int)(w:Zc)(hlen:len≤9223372036854775807)
  (hc: ∀i,i < len→w.cell? ⟨b,off+i,none⟩=some (.int .u64 (z.getD i 0))) (hz: ∀i,0≤z.getD i 0∧z.getD i 0≤18446744073709551615) :
  Zi Zb 66 #[.slice (some ⟨b,off,none⟩) len cap] w fun e w'=>e= .returned (.tuple #[.int .u64 (EG z len),.bool (G9 z len)])∧ ∃n,w'=w.drewN n:=by
 have hn:=Bh (fun i=>(hz i).1);have HC:=Za hc;have HZ:=Za hz;have HN:=Za hn;clear hc hz hn;go_enter Tryz.func66,Tryz.ntmps66;go_wp2;go_loopw [4,5] (fun s4 s5 wr=> ∃(k m:Nat) (t:Int),k≤len∧s5= .int .i64 k∧s4= .int .u64 t∧wr=w.drewN m∧Hid (t=XT z k∧t≤18446744073709551615)) (fun _ s5 _=>len -(intOf s5).toNat)
 case atStart=>exact ⟨0,0,0,by omega,rfl,rfl,rfl,Za ⟨rfl,by omega⟩⟩
 case round=>
  obtain ⟨k,m,t,hk,rfl,rfl,rfl,HT⟩:=hrel;have t0:0≤t:=by rw [HT.out.1]; exact HN.out k
  have t1:=HT.out.2
  by_cases XJ:k < len
  ·have Gl:=HC.out k XJ;obtain ⟨y0,y1⟩:=HZ.out k;have hs:XT z (k+1)=t+z.getD k 0:=by rw [HT.out.1]; rfl
   generalize z.getD k 0=y at*;have HS:=Za hs;clear hs
   by_cases EU:t+y≤18446744073709551615
   ·go_wp2;go_quiet ((go_at_call 116; exact Pv (Tg _)));go_wp2;go_roundw
    case rel=>exact ⟨k+1,_,t+y,by omega,by go_num,rfl,rfl,Za ⟨HS.out.symm,EU⟩⟩
    case measure=>exact Uz
   ·have p4: ¬XT z len≤18446744073709551615:=by
     exact ZgO
    have HB:=Za (Nd p4);clear p4;go_wp2;go_quiet ((go_at_call 116; exact Pv (Tg _)));go_wp2;go_ret2;exact ⟨by rw [HB.out.1,HB.out.2]; rfl,m+nq,World.drewN_drewN _ _ _⟩
  ·obtain rfl:k=len:=by omega
   have HB:=Za (Fl (z:=z) (n:=k) (by rw [←HT.out.1]; exact t1));have HE:=Za HT.out.1;clear XJ;have XJ: ¬k < k:=by omega
   go_wp2;go_ret2;exact ⟨by rw [HB.out.1,HB.out.2,←HE.out]; rfl,_,rfl⟩
end
section
open Go.RowKit
section
variable {P:YZ} (w:Zc)
theorem UM {t:ZT}{k:IntKind}(h:P.underlying t=some (.int k)) :P.plainKey t=true:=by simp [Program.plainKey,h]
end
end
section
open Go.RowKit
def DT (w:Zc)(b:Nat)(n L:Int) :Prop:=Zy w b 217 #[.int .i64 n,.int .i64 L]
theorem Hl {w:Zc}{b:Nat}{n L:Int}(h:DT w b n L) :
  w.cell? ⟨b,0,none⟩=some (.int .i64 n)∧w.cell? ⟨b,1,none⟩=some (.int .i64 L)∧w.frozen? ⟨b,0,none⟩=false:=
 ⟨Zy.cell h 0,Zy.cell h 1,Zy.frozen h 0⟩
theorem Hm (b:Nat)(n:Int)(w:Zc)(h:w.cell? ⟨b,0,none⟩=some (.int .i64 n)) :
  Zi Zb 154 #[.pointer (some ⟨b,0,none⟩)] w fun e w'=>e= .returned (.int .i64 n)∧w=w':=by
 go_enter Tryz.func154,Tryz.ntmps154;exact Vr
theorem ag (b:Nat)(n:Int)(w:Zc)(h0:0≤n)(h1:n≤9223372036854775806)(h:w.cell? ⟨b,0,none⟩=some (.int .i64 n))(hf:w.frozen? ⟨b,0,none⟩=false) :
  Zi Zb 254 #[.pointer (some ⟨b,0,none⟩)] w fun e w'=>e= .returned (.tuple #[])∧(w.setCell ⟨b,0,none⟩ (.int .i64 (n+1)))=w':=by
 go_enter Tryz.func254,Tryz.ntmps254;go_wp2;go_end0;exact BV
def Np (n L:Int) :Int:=if n < 0∨L < 1 then 0 else n/L
theorem Pa {n L:Int}(h0:0≤n)(h1:1≤L) :Np n L=n/L:=if_neg Zp
theorem aQ (n L:Int)(w:Zc)(hn:n≤9223372036854775807) :
  Zi Zb 155 #[.int .i64 n,.int .i64 L] w fun e w'=>e= .returned (.int .i64 (Np n L))∧w=w':=by
 by_cases h0:n < 0
 ·have hd:decide (n < 0)=true:=by simpa using h0
  have H:=Za (show Np n L=0 from if_pos (.inl h0));exact sR
 ·have hd:decide (n < 0)=false:=by simpa using h0
  by_cases h1:L < 1
  ·have vU:decide (L < 1)=true:=by simpa using h1
   have H:=Za (show Np n L=0 from if_pos (.inr h1));exact sR
  ·have vU:decide (L < 1)=false:=by simpa using h1
   have hz:(L==0)=false:=by simp; omega
   have H:=Za (Pa (n:=n) (L:=L) Zp Zp);have q0:0≤n/L:=KI Zp Zp;have q1:n/L≤n:=Kp _ Zp;have h2:0≤n:=by omega
   have h3:1≤L:=by omega
   clear h0 h1;exact sR
theorem bT (n:Int)(w:Zc)(h0:0≤n)(h1:n≤1099511627776) :
  Zi Zb 282 #[.int .i64 n] w fun e w'=>e= .returned (.bool true)∧w=w':=by
 exact tc
theorem fv (n:Int)(w:Zc)(h:n < 0∨1099511627776 < n) :
  Zi Zb 282 #[.int .i64 n] w fun e w'=>e= .returned (.bool false)∧w=w':=by
 rcases h with h | h
 ·have hd:decide (0≤n)=false:=by simpa using h
  exact tc
 ·have hd:decide (0≤n)=true:=by simp; omega
  have hd:decide (n≤1099511627776)=false:=by simpa using h
  exact tc
end
section
open Go.RowKit
def qV (k:Nat) :IntKind:=if k < 2∨(10≤k∧k < 18) then .i64 else .u64
def Zk (c:Nat→Int) :Array Zo:= #[.int .i64 (c 0),.int .i64 (c 1),.int .u64 (c 2),.int .u64 (c 3),.int .u64 (c 4),.int .u64 (c 5),.int .u64 (c 6),.int .u64 (c 7),.int .u64 (c 8),.int .u64 (c 9),.int .i64 (c 10),.int .i64 (c 11),.int .i64 (c 12),.int .i64 (c 13),.int .i64 (c 14),.int .i64 (c 15),.int .i64 (c 16),.int .i64 (c 17),.int .u64 (c 18),.int .u64 (c 19)]
def Wj (c:Nat→Int) :Prop:= ∀k,k < 20→(Lit.int (qV k) (c k)).wf=true
def cb:Int:=1152921504606846976
def Mc (v lo hi:Int) :Bool:=decide (lo≤v∧v≤hi)
def Yz (c:Nat→Int) :Nat→Bool
 | 0=>Mc (c 0) 1 4096
 | 1=>Mc (c 1) 1 4096
 | 2=>decide (1≤c 2)
 | 3=>decide (c 2≤c 3)
 | 4=>Mc (c 4) (c 3) cb
 | 5=>Mc (c 5) 1 (c 2)
 | 6=>Mc (c 6) (c 3) (c 4)
 | 7=>Mc (c 7) 1 cb
 | 8=>decide (1≤c 8)
 | 9=>decide (c 9≤cb)
 | 10=>Mc (c 10) 1 1048576
 | 11=>decide (c 10 < c 11∧c 11≤1048576)
 | 12=>Mc (c 12) 1 4096
 | 13=>Mc (c 13) 1 4096
 | 14=>Mc (c 14) 1 4096
 | 15=>Mc (c 15) 1 4096
 | 16=>decide (0≤c 16∧c 16 < c 14∧c 16 < c 15)
 | 17=>Mc (c 17) 0 4096
 | 18=>decide (c 18≤c 19)
 | 19=>Mc (c 19) 1 4294967296
 | _=>true
def Br (c:Nat→Int) :Nat→Nat→Int
 | 0,_=>0
 | n+1,k=>if Yz c k=true then Br c n (k+1) else(k:Int)+1
def P6 (c:Nat→Int) :Int:=Br c 20 0
def Dh (c:Nat→Int)(k:Nat) :Prop:= ∀j,j < k→Yz c j=true
theorem Dq (c:Nat→Int) : ∀(k n s:Nat),(∀j,s≤j→j < s+k→Yz c j=true)→Br c (n+k) s=Br c n (s+k)
 | 0,n,s,_=>rfl
 | k+1,n,s,h=>by
  rw [show n+(k+1)=(n+k)+1 by omega,Br,if_pos (h s Zp Zp),Dq c k n (s+1) (fun j h1 h2=>h j Zp Zp)]
  congr 1; omega
theorem en {c:Nat→Int}{k:Nat}(hk:k < 20)(hb:Dh c k)(hr:Yz c k=false) :P6 c=(k:Int)+1:=by
 unfold P6;rw [show 20=(19 - k+1)+k by omega,Dq c k _ 0 (fun j _ h=>hb j Zp),Br,Nat.zero_add,if_neg (by rw [hr]; simp)]
theorem aD {c:Nat→Int}(hb:Dh c 20) :P6 c=0:=by
 unfold P6;rw [show 20=0+20 by omega,Dq c 20 0 0 (fun j _ h=>hb j Zp),Br]
theorem Hi {c:Nat→Int}{k:Nat}(hb:Dh c k)(hr:Yz c k=true) :Dh c (k+1):=fun j hj=>by
 rcases YA j k with h | h
 ·exact hb j h
 ·rw [show j=k by omega]; exact hr
theorem Hj (c:Nat→Int) :Dh c 0:=fun j h=>by omega
theorem Oo (c:Nat→Int) :(P6 c=0∧Dh c 20)∨ ∃k,k < 20∧Dh c k∧Yz c k=false∧P6 c=(k:Int)+1:=by
 have: ∀n,n≤20→Dh c n∨ ∃k,k < n∧Dh c k∧Yz c k=false:=by
  intro n
  induction n with
  | zero=>intro _; exact .inl (Hj c)
  | succ n ih=>
   intro hn
   rcases ih Zp with h | ⟨k,hk,h1,h2⟩
   ·cases hr:Yz c n with
    | true=>exact .inl (Hi h hr)
    | false=>exact .inr ⟨n,by omega,h,hr⟩
   ·exact .inr ⟨k,by omega,h1,h2⟩
 rcases this 20 (Zg _) with h | ⟨k,hk,h1,h2⟩
 ·exact .inl ⟨aD h,h⟩
 ·exact .inr ⟨k,hk,h1,h2,en hk h1 h2⟩
end
section
def JW (L:List Bool)(s:Nat) :Nat→List Nat
 | 0=> []
 | k+1=>if L.getD ((s+k)%L.length) false=true then JW L s k++[(s+k)%L.length] else JW L s k
def KD (L:List Bool)(s k:Nat) :List Int:=(JW L s k).map fun i:Nat=>(i:Int)
def DS (n s k:Nat) :Nat:=if k=0 then s else(s+k)%n
def Nc (L:List Bool)(s:Nat)(v p:Int)(m:Nat) :Prop:=
 (v≤(m:Int)∨L.length≤m∨p≤((JW L s m).length:Int))∧ ∀j,j < m→(j:Int)< v∧j < L.length∧((JW L s j).length:Int)< p
section
variable {L:List Bool} {s m m' k:Nat} {v p:Int}
theorem Nc.unique (h:Nc L s v p m)(h':Nc L s v p m') :m=m':=by
 obtain ⟨h1,h2⟩:=h;obtain ⟨g1,g2⟩:=h'
 rcases Nat.lt_trichotomy m m' with h | h | h
 ·have:=g2 m h; omega
 ·exact h
 ·have:=h2 m' h; omega
theorem Nc.le (h:Nc L s v p m) :m≤L.length:=by
 rcases QV m with h0 | h0
 ·omega
 ·have:=h.2 (m - 1) Zp; omega
theorem Nc.le_v (h:Nc L s v p m) :m=0∨(m:Int)≤v:=by
 rcases QV m with h0 | h0
 ·exact .inl h0
 ·have:=h.2 (m - 1) Zp; omega
theorem mr (h:L.getD ((s+k)%L.length) false=true) :JW L s (k+1)=JW L s k++[(s+k)%L.length]:=by rw [JW,if_pos h]
theorem fQ (h:L.getD ((s+k)%L.length) false=false) :JW L s (k+1)=JW L s k:=by rw [JW,if_neg (by rw [h]; simp)]
theorem mu (L:List Bool)(s k:Nat) :(JW L s k).length≤k:=by
 induction k with
 | zero=>simp [JW]
 | succ k ih=>
  rw [JW]; split
  ·rw [List.length_append,List.length_singleton]; omega
  ·omega
theorem SX (L:List Bool)(s k:Nat) :(JW L s (k+1)).length≤(JW L s k).length+1:=by
 rw [JW]; split
 ·simp
 ·omega
theorem Nc.le_p (h:Nc L s v p m) :(JW L s m).length=0∨((JW L s m).length:Int)≤p:=by
 rcases QV m with h0 | h0
 ·subst h0; exact .inl rfl
 ·obtain ⟨k,rfl⟩ : ∃k,m=k+1:=⟨m - 1,by omega⟩;have:=h.2 k Zp;have:=SX L s k;omega
theorem Az (L:List Bool)(s k:Nat) :(KD L s k).length=(JW L s k).length:=by simp [KD]
theorem mw (h:L.getD ((s+k)%L.length) false=true) :KD L s (k+1)=KD L s k++[(((s+k)%L.length:Nat) :Int)]:=by simp [KD,mr h]
theorem fS (h:L.getD ((s+k)%L.length) false=false) :KD L s (k+1)=KD L s k:=by simp [KD,fQ h]
theorem LK {i:Nat} : ∀ {k:Nat},i ∈ JW L s k→(∃j,j < k∧i=(s+j)%L.length)∧L.getD i false=true
 | 0,h=>by simp [JW] at h
 | k+1,h=>by
  rw [JW] at h
  split at h
  ·rename_i hg
   rw [List.mem_append] at h
   rcases h with h | h
   ·obtain ⟨⟨j,hj,e⟩,h2⟩:=LK h;exact ⟨⟨j,by omega,e⟩,h2⟩
   ·rw [Y5] at h;subst h;exact ⟨⟨k,by omega,rfl⟩,hg⟩
  ·obtain ⟨⟨j,hj,e⟩,h2⟩:=LK h;exact ⟨⟨j,by omega,e⟩,h2⟩
theorem ZcD {n s i j:Nat}(hij:i < j)(hj:j < i+n) :(s+i)%n≠(s+j)%n:=by
 intro h;have h1:=Ka (s+i) n;have h2:=Ka (s+j) n;rw [h] at h1;have h3:n*((s+j)/n)=n*((s+i)/n)+(j - i):=by omega
 rcases Nat.lt_trichotomy ((s+j)/n) ((s+i)/n) with hc | hc | hc
 ·exact Zg0
 ·rw [hc] at h3; omega
 ·exact Zg0
theorem Pp: ∀ {k:Nat},k≤L.length→(JW L s k).Nodup
 | 0,_=>by simp [JW]
 | k+1,hk=>by
  have ih:=Pp (k:=k) Zp;rw [JW]
  split
  ·rw [List.nodup_append];refine ⟨ih,by simp,fun a ha b hb=>?_⟩;rw [Y5] at hb;subst hb;obtain ⟨⟨j,hj,rfl⟩,_⟩:=LK ha;exact ZcD hj Zp
  ·exact ih
theorem rE (n s k:Nat) :DS n s k%n=(s+k)%n:=by
 unfold DS
 split
 ·rename_i h; rw [h,Nat.add_zero]
 ·exact Nat.mod_mod _ _
theorem mE (n s k:Nat) :((s+k)%n+1)%n=DS n s (k+1):=by
 unfold DS;rw [if_neg Zp,Nat.mod_add_mod,Jy]
theorem xp {n s k:Nat}(hn:0 < n)(hk:0 < k) :DS n s k < n:=by
 unfold DS;rw [if_neg Zp];exact Nat.mod_lt _ hn
theorem xo {n s k:Nat}(hn:n≤100)(hs:s≤100)(hk:k≤n) :DS n s k≤100:=by
 rcases QV k with h | h
 ·subst h; exact hs
 ·have:=xp (s:=s) (show 0 < n by omega) h; omega
theorem sg (h: ∀j,j < m→(j:Int)< v∧j < L.length∧((JW L s j).length:Int)< p)(h1:(m:Int)< v)(h2:m < L.length)(h3:((JW L s m).length:Int)< p) :
  ∀j,j < m+1→(j:Int)< v∧j < L.length∧((JW L s j).length:Int)< p:=by
 intro j hj
 by_cases e:j=m
 ·subst e; exact ⟨h1,h2,h3⟩
 ·exact h j Zp
end
theorem Nc.ge {L:List Bool}{s m v p:Nat}(h:Nc L s v p m) :L.length≤m∨min v p≤m:=by
 have:=mu L s m
 rcases h.1 with h | h | h
 ·exact .inr Zp
 ·exact .inl h
 ·exact .inr Zp
end
section
open Go.RowKit Go.Lib
def Ej (a m q:Int) :Int:=if q=0 then m else if m < a/q then a/q else m
theorem kZ (a m q:Int)(w:Zc)(a0:0≤a)(a1:a≤18446744073709551615)(q0:0≤q)(q1:q≤18446744073709551615) :
  Zi Zb 211 #[.int .u64 a,.int .u64 m,.int .u64 q] w fun e w'=>e= .returned (.int .u64 (Ej a m q))∧w=w':=by
 by_cases hq:q=0
 ·have hf:Ej a m q=m:=by unfold Ej; rw [if_pos hq]
  subst hq;exact Zdu
 ·have hd:(q==0)=false:=by simp; omega
  have nW:0≤a/q:=KI a0 Zp;have hq2:a/q≤a:=Kp _ a0
  by_cases hm:a/q≤m
  ·have hf:Ej a m q=m:=by unfold Ej; rw [if_neg hq,if_neg Zp]
   exact Zdu
  ·have hf:Ej a m q=a/q:=by unfold Ej; rw [if_neg hq,if_pos Zp]
   exact Zdu
def ceilQ (a d:Int) :Int:=if a%d=0 then a/d else a/d+1
theorem oV (a d:Int)(h0:0≤a)(h1:a≤18446744073709551615)(h2:1≤d)(hm: ¬a%d=0) :a/d+1≤18446744073709551615:=by
 by_cases e:d=1
 ·subst e; simp at hm
 ·have h3:a/d < 9223372036854775808:=Int.ediv_lt_of_lt_mul Zp (by
   have:9223372036854775808*2≤9223372036854775808*d:=Int.mul_le_mul_of_nonneg_left Zp Zp;omega)
  omega
theorem Cw (a d:Int)(h0:0≤a)(h2:1≤d) :0≤ceilQ a d:=by
 have hq:0≤a/d:=KI h0 Zp;unfold ceilQ
 split <;> omega
def So (a d:Int) :Bool:=decide (d≠0∧ceilQ a d≤1099511627776)
def epQ (a d:Int) :Int:=if So a d=true then ceilQ a d else 0
theorem vE (a d:Int)(h:d=0) :epQ a d=0∧So a d=false:=by
 have:So a d=false:=by unfold So; exact decide_eq_false (fun x=>x.1 h)
 exact ⟨by unfold epQ; rw [this]; rfl,this⟩
theorem CE (a d:Int)(h: ¬ceilQ a d≤1099511627776) :epQ a d=0∧So a d=false:=by
 have:So a d=false:=by unfold So; exact decide_eq_false (fun x=>h x.2)
 exact ⟨by unfold epQ; rw [this]; rfl,this⟩
theorem eG (a d:Int)(h: ¬d=0)(h':ceilQ a d≤1099511627776) :epQ a d=ceilQ a d∧So a d=true:=by
 have:So a d=true:=by unfold So; exact decide_eq_true ⟨h,h'⟩
 exact ⟨by unfold epQ; rw [if_pos this],this⟩
theorem kT (a:Int)(w:Zc) :
  Zi Zb 334 #[.int .u64 a,.int .u64 0] w fun e w'=>e= .returned (.tuple #[.int .u64 0,.bool false])∧w=w':=by
 go_enter Tryz.func334,Tryz.ntmps334;exact TY
theorem aA (a d:Int)(w:Zc)(h0:0≤a)(h1:a≤18446744073709551615)(h2:1≤d)(h3:d≤18446744073709551615) :
  Zi Zb 334 #[.int .u64 a,.int .u64 d] w fun e w'=>e= .returned (.tuple #[.int .u64 (ceilQ a d),.bool true])∧w=w':=by
 have hd:(d==0)=false:=by simp; omega
 have hq:0≤a/d:=KI h0 Zp;have hq2:a/d≤a:=Kp _ h0
 by_cases hm:a%d=0
 ·have hf:ceilQ a d=a/d:=by unfold ceilQ; rw [if_pos hm]
  exact Zg3
 ·have hq3:=oV a d h0 h1 h2 hm;have hf:ceilQ a d=a/d+1:=by unfold ceilQ; rw [if_neg hm]
  exact Zg3
theorem aS (a:Int)(w:Zc) :
  Zi Zb 333 #[.int .u64 a,.int .u64 0] w fun e w'=>e= .returned (.tuple #[.int .i64 0,.bool false])∧w=w':=by
 have H:=Za (fun w=>kT a w);go_enter Tryz.func333,Tryz.ntmps333;go_wp2_with fail;refine (H.out _).mono ?_;rintro e w' ⟨rfl,rfl⟩;exact TY
theorem aR (a d:Int)(w:Zc)(h0:0≤a)(h1:a≤18446744073709551615)(h2:1≤d)(h3:d≤18446744073709551615)(h4:1099511627776 < ceilQ a d) :
  Zi Zb 333 #[.int .u64 a,.int .u64 d] w fun e w'=>e= .returned (.tuple #[.int .i64 0,.bool false])∧w=w':=by
 have H:=Za (fun w=>aA a d w h0 h1 h2 h3);exact Zgv
theorem eI (a d:Int)(w:Zc)(h0:0≤a)(h1:a≤18446744073709551615)(h2:1≤d)(h3:d≤18446744073709551615)(h4:ceilQ a d≤1099511627776) :
  Zi Zb 333 #[.int .u64 a,.int .u64 d] w fun e w'=>e= .returned (.tuple #[.int .i64 (ceilQ a d),.bool true])∧w=w':=by
 have H:=Za (fun w=>aA a d w h0 h1 h2 h3);have h5:=Cw a d h0 h2;exact Zgv
theorem eH (a d:Int)(w:Zc)(h0:0≤a)(h1:a≤18446744073709551615)(h2:0≤d)(h3:d≤18446744073709551615) :
  Zi Zb 333 #[.int .u64 a,.int .u64 d] w fun e w'=>e= .returned (.tuple #[.int .i64 (epQ a d),.bool (So a d)])∧w=w':=by
 by_cases hd:d=0
 ·have h:=vE a d hd;rw [h.1,h.2];subst hd;exact aS a w
 ·by_cases h4:ceilQ a d≤1099511627776
  ·have h:=eG a d hd h4;rw [h.1,h.2];exact eI a d w h0 h1 Zp h3 h4
  ·have h:=CE a d h4;rw [h.1,h.2];exact aR a d w h0 h1 Zp h3 Zp
end
section
def Vl (lim:Int)(p:Nat × Int)(x:Int) :Nat × Int:=if p.1=0∨lim < p.2+x then(p.1+1,x) else(p.1,p.2+x)
def zl (lim:Int) :Nat × Int→List Int→Nat × Int
 | p,[]=>p
 | p,x::r=>zl lim (Vl lim p x) r
def oY (lim s:Int) :List Int→Nat
 | []=>0
 | y::r=>if lim < s+y then 0 else 1+oY lim (s+y) r
def FQ (lim:Int) :List Int→Nat
 | []=>0
 | x::r=>1+oY lim x r
def bnd (lim:Int)(X:List Int) :Nat:=(zl lim (0,0) X).1
section
variable {lim s x:Int} {X r:List Int} {k j n m:Nat}
theorem Sa (lim s x:Int) :Vl lim (0,s) x=(1,x):=by simp [Vl]
theorem WX (h: ¬lim < s+x) :Vl lim (k+1,s) x=(k+1,s+x):=by simp [Vl,h]
theorem R9 (h:lim < s+x) :Vl lim (k+1,s) x=(k+1+1,x):=by simp [Vl,h]
theorem oZ: ∀(X:List Int) (s:Int),oY lim s X≤X.length
 | [],s=>Zg _
 | y::r,s=>by
  have:=oZ r (s+y);rw [oY,Yu]
  split <;> omega
theorem Cl (X:List Int) :FQ lim X≤X.length:=by
 cases X with
 | nil=>exact Zg _
 | cons y r=>have:=oZ (lim:=lim) r y; rw [FQ,Yu]; omega
def Stp (lim:Int)(X:List Int)(n:Nat) :Prop:=
 n≤X.length∧(∀m,0 < m→m < n→XT X (m+1)≤lim)∧(n < X.length→0 < n∧lim < XT X (n+1))
theorem Stp.unique (h:Stp lim X n)(k:Stp lim X m) :n=m:=by
 rcases Nat.lt_trichotomy n m with hl | hl | hl
 ·obtain ⟨h1,h2⟩:=h.2.2 (by have:=k.1; omega);have:=k.2.1 n h1 hl;omega
 ·exact hl
 ·obtain ⟨h1,h2⟩:=k.2.2 (by have:=h.1; omega);have:=h.2.1 m h1 hl;omega
theorem Bz (y:Int)(r:List Int) : ∀k,XT (y::r) (k+1)=y+XT r k
 | 0=>by simp [XT]
 | k+1=>by rw [XT,Bz y r k,XT]; simp; omega
theorem aF: ∀(X:List Int) (s:Int),(∀m,m < oY lim s X→s+XT X (m+1)≤lim)∧(oY lim s X < X.length→lim < s+XT X (oY lim s X+1))
 | [],s=>⟨fun m h=>by simp [oY] at h,fun h=>by simp at h⟩
 | y::r,s=>by
  rw [oY]
  by_cases h:lim < s+y
  ·rw [if_pos h];exact ⟨fun m hm=>by omega,fun _=>by simp [XT]; exact h⟩
  ·rw [if_neg h];obtain ⟨h1,h2⟩:=aF r (s+y);refine ⟨fun m hm=>?_,fun hl=>?_⟩
   ·rw [Bz]
    cases m with
    | zero=>simp [XT]; omega
    | succ m=>have:=h1 m Zp; omega
   ·rw [Yu] at hl;have:=h2 Zp;rw [Nat.add_comm 1 (oY lim (s+y) r),Bz];omega
theorem RV (lim:Int)(X:List Int) :Stp lim X (FQ lim X):=by
 refine ⟨Cl X,?_⟩
 cases X with
 | nil=>exact ⟨fun m h1 h2=>by simp [FQ] at h2,fun h=>by simp at h⟩
 | cons y r=>
  obtain ⟨h1,h2⟩:=aF (lim:=lim) r y;rw [FQ];refine ⟨fun m h3 h4=>?_,fun h3=>⟨by omega,?_⟩⟩
  ·obtain ⟨j,rfl⟩ : ∃j,m=j+1:=⟨m - 1,by omega⟩;rw [Bz];exact h1 j Zp
  ·rw [Yu] at h3;rw [Nat.add_comm 1 (oY lim y r),Bz];exact h2 Zp
end
end
section
open Go.RowKit
theorem rf (L:Int)(w:Zc)(h:1≤L) :
  Zi Zb 72 #[.int .i64 L] w fun e w'=>e= .returned (.pointer (some ⟨w.heap.size,0,none⟩))∧w.alloc (.cells #[.int .i64 0,.int .i64 L] 217)=w':=by
 go_enter Tryz.func72,Tryz.ntmps72;exact Vr
theorem kQ (b:Nat)(n L:Int)(w:Zc)(h:DT w b n L) :
  Zi Zb 107 #[.pointer (some ⟨b,0,none⟩)] w fun e w'=>e= .returned (.int .i64 n)∧w=w':=by
 obtain ⟨c0,c1,cf⟩:=Hl h;clear h;go_enter Tryz.func107,Tryz.ntmps107;go_wp2_with (go_at_call 154; refine (Hm _ _ _ c0).mono ?_; rintro e w' ⟨rfl,rfl⟩);go_ret;exact BV
theorem lu (b:Nat)(n L:Int)(w:Zc)(hn:n≤9223372036854775807)(h:DT w b n L) :
  Zi Zb 108 #[.pointer (some ⟨b,0,none⟩)] w fun e w'=>e= .returned (.int .i64 (Np n L))∧ ∃m,w'=w.drewN m:=by
 obtain ⟨c0,c1,cf⟩:=Hl h;clear h;go_enter Tryz.func108,Tryz.ntmps108;go_wp2;go_quiet (first | (go_at_call 154; exact GJ (Hm _ _ _ (by simpa using c0))) | (go_at_call 155; exact GJ (aQ _ _ _ hn)));exact dy
theorem sr (b:Nat)(n L:Int)(w:Zc)(h0:0≤n)(hn:n≤9223372036854775806)(hL:1≤L)(h:DT w b n L) :
  Zi Zb 208 #[.pointer (some ⟨b,0,none⟩)] w fun e w'=>e= .returned (.bool ((n+1)%L==0))∧ ∃m,w'=(w.setCell ⟨b,0,none⟩ (.int .i64 (n+1))).drewN m:=by
 obtain ⟨c0,c1,cf⟩:=Hl h;have hz:(L==0)=false:=by simp; omega
 have d0:(w.setCell ⟨b,0,none⟩ (.int .i64 (n+1))).cell? ⟨b,0,none⟩=some (.int .i64 (n+1)):=Zy.cell (Zy.set_ h 0 _) 0;clear h;go_enter Tryz.func208,Tryz.ntmps208;go_wp2_with (go_at_call 254; refine (ag _ _ _ h0 hn c0 cf).mono ?_; rintro e w' ⟨rfl,rfl⟩);go_quiet ((go_at_call 154; exact GJ (Hm _ _ _ (by simpa using d0))));exact dy
theorem yk (b:Nat)(n L:Int)(w:Zc)(h0:0≤n)(hn:n≤9223372036854775806)(hL:1≤L)(h:DT w b n L) :
  Zi Zb 208 #[.pointer (some ⟨b,0,none⟩)] w fun e w'=>e= .returned (.bool ((n+1)%L==0))∧DT w' b (n+1) L∧w.grownBy w' (some b):=
 (sr b n L w h0 hn hL h).mono fun e w' ⟨he,m,hm⟩=>⟨he,by subst hm; exact Zy.set_ h 0 _,by subst hm; exact VM (QK (JV _ _) (.inl rfl) _) m⟩
end
end Go.Proofs.YtianiiijaopdpaaGreat
