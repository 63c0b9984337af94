/- Part 4 of 34: Words ZA Class Tail QY L04Ring Append Count WrapC L06Add Same L02Base L03Cfg WrapT L04OpsInt L04CopyInt L04GrowInt L04AllInt L04OneInt. -/
import Derived.Test.YtobgbcdgffgdhaaGreatZx00
import Derived.BigQuiet
import Derived.Deep.AppendLies
import Derived.DeepKeys4
import Derived.Laws.CopyOwn
import Derived.Lib.Hide
import Derived.Lib.SliceRun
import Derived.OpenShut
import Derived.StillTailTactics
import Derived.Test.YtobgbcdgffgdhaaGreatChecked
import Derived.WalkSmall
namespace Go.Proofs.YtobgbcdgffgdhaaGreat
set_option linter.unusedVariables false
set_option linter.unusedSimpArgs false
set_option maxRecDepth 100000
set_option maxHeartbeats 8000000
open _root_.Array renaming toList_push -> Uw, toList_range -> GZ
open _root_.Go.RowKit renaming Below -> Zp
open _root_.Go.RowKit.Below renaming heap_alloc -> Ga, heap_setCell -> Xr
open _root_.Bool renaming and_eq_true -> YL
open _root_.Go.Builtin renaming append_ -> GQ, firstCells -> V5, zeroCells -> Y3
open _root_.Go renaming Calls -> Zv, FuncId -> Gx, Operand -> YW, Program -> YV, TypeId -> ZL, TypeInfo -> KG, Value -> Zl, World -> Zc, execOp -> XU, getD_replicate_false -> UP, length_splice -> JI, ready_mono -> UW, run_underlying -> Xf, setRow_heap -> YH, splice -> Vw, typeInfo -> VR, wpList -> Y2, wpList_plain -> Ju, wpQuiet -> Yl, yielded -> Ue, zeroValue -> Ke
open _root_.Go.Code renaming region -> VS
open _root_.Go.Ending renaming returned -> Kf
open _root_.Go.Instr renaming lookup -> J5, mapUpdate -> GS
open _root_.List renaming eq_nil_of_length_eq_zero -> ZO, ext_getElem? -> Ve, getElem?_append_left -> Yw, getElem?_append_right -> YY, getElem?_drop -> Qi, getElem?_eq_getElem -> Zg, getElem?_eq_none -> XV, getElem?_eq_some_iff -> Zk, getElem?_map -> ZM, getElem?_take_of_lt -> Jm, length_cons -> Yg, mem_map -> Yc, mem_of_getElem? -> Zz, mem_of_mem_drop -> Xn, mem_of_mem_take -> ZT, mem_range -> XT, mem_singleton -> Ym
open _root_.Go.Lit renaming int -> YN
open _root_.Go.MapKept renaming run_getObj_map -> Qy, run_setObj_map -> V6
open _root_.Nat renaming add_assoc -> Jn, add_mul -> Bp, eq_zero_or_pos -> Qz, le_refl -> Zh, le_trans -> ZZ, lt_of_lt_of_le -> YC, lt_or_ge -> YI, min_eq_left -> GU, mod_eq_of_lt -> KB, mod_lt -> JK, mul_le_mul_right -> Qe, zero_add -> ZW
open _root_.Ne renaming symm -> Ji
open _root_.Go.Oper renaming quietAt -> V8, wp -> Jj
open _root_.Go.Region renaming Mode -> J9, binds -> Xp, chainB -> Vp, lexTailB -> Uk, ready -> YA, sinkB -> Vi, wanted -> X3
open _root_.Go.Result renaming andThen -> Xd, andThen_ok -> ZY
open _root_.Go.Sem renaming run_bind -> Yq, run_pure -> YX
open _root_.Go.Proofs.Tryz renaming prog -> Zb
open _root_.Go.Value renaming cells -> Yr
open Go.Proofs.Tryz
theorem KM {G:Prop}(h:G:=by simpa using h) :G:=h
theorem QT {G:Prop}(h:G:=by simpa using h1) :G:=h
theorem dM {G:Prop}(h:G:=by simpa using hl) :G:=h
theorem mT {G:Prop}(h:G:=by show c - u=min _ _; omega) :G:=h
theorem FK {G:Prop}(h:G:=by rw [e]) :G:=h
theorem Sj {G:Prop}(h:G:=by rw [EO]; omega) :G:=h
theorem mN {G:Prop}(h:G:=by have:=HC.o; simp [Value.cells]; omega) :G:=h
theorem EM {G:Prop}(h:G:=by have:=HC.o; omega) :G:=h
theorem Si {G:Prop}(h:G:=by have:=Wj.o; omega) :G:=h
theorem Sh {G:Prop}(h:G:=by rw [h] at hr; cases hr) :G:=h
theorem Sf {G:Prop}(h:G:=by show u=min _ _; omega) :G:=h
theorem Lx {G:Prop}(h:G:=by simpa using c1) :G:=h
theorem Lv {G:Prop}(h:G:=by simpa using c3) :G:=h
theorem Se {G:Prop}(h:G:=by have:=HF.o; simp; omega) :G:=h
theorem Sd {G:Prop}(h:G:=by injection hi with hi; omega) :G:=h
theorem Ls {G:Prop}(h:G:=by show 0=min _ _; omega) :G:=h
theorem Xo {G:Prop}(h:G:=by simp; omega) :G:=h
theorem aM {G:Prop}(h:G:=by rw [length_splice _ _ _ (by have:=HF.o; have:=Wj.o; simp; omega)]; have:=HF.o; have:=Wj.o; simp; omega) :G:=h
theorem Y5 {G:Prop}(h:G:=by decide) :G:=h
theorem ZE {G:Prop}(h:G:=by simp) :G:=h
theorem ZC {G:Prop}(h:G:=by kernel_rfl) :G:=h
theorem Zf {G:Prop}(h:G:=by omega) :G:=h
theorem BY {G H:Prop} (k:H) (h:Dq H->G:=by
  intro zk;simp only [qT,qD];exact zk.o) :G:=h ⟨k⟩
theorem Yo {G H:Prop} (k:H) (h:Dq H->G:=by
  intro zk;refine wpQuiet_nil ?_;exact zk.o) :G:=h ⟨k⟩
theorem yC {G H:Prop} (k:H) (h:Dq H->G:=by
  intro zk;refine bodyPost_ret (results_none rfl _ _ _) rfl ?_;exact zk.o) :G:=h ⟨k⟩
theorem Zga {G:Prop} (h:G:=by
  refine ⟨rfl,n',F++D.drop F.length,⟨(jz.o.set_ 1 _).set_ 2 _,(EU.o.far (Ne.symm Nr) _).far (Ne.symm Nr) _,hlen,by omega,by omega,hn3,hs⟩,QY.of_prefix (by rw [hlen]; omega),kB,?_⟩;exact ZA.setCell (S:=fun i=>i=b) (ZA.setCell (S:=fun i=>i=b) (Sn.o.more_new) (.inl rfl) _) (.inl rfl) _) :G:=h
theorem zO {G:Prop} (h:G:=by
  refine ⟨?_,?_,?_⟩
  ·have:=HD2.o;rw [mu (by have:=HF.o; have:=Wj.o; omega) (by have:=HF.o; omega)] at this;exact this
  ·exact ((((ZA.refl _ w).drewN nq).drewN nr).trans OV.o (fun _ _ h=>h)).drewN ns |>.trans Sn.o (fun _ _ h=>h)
  ·exact Hi.o.trans Ri.o) :G:=h
theorem Zge {G:Prop} (h:G:=by
  have:=(h1.cell 1).symm.trans c1;simp only [List.getElem?_toArray,List.getElem?_cons_succ,List.getElem?_cons_zero,Option.some.injEq] at this;rw [<-this];exact ⟨_,_,h1⟩) :G:=h
theorem Zgq {G:Prop} (h:G:=by
  have h1:=HFl.o;have h2:=Wj.o;rw [List.length_append,List.length_drop];omega) :G:=h
theorem zU {G:Prop} (h:G:=by
  have HE:=Za Ub;clear Ub;go_wp2
  all_goals
   go_end0;exact ⟨rfl,HE.o⟩) :G:=h
theorem zV {G:Prop} (h:G:=by
  rintro e w' ⟨rfl,rfl⟩;go_wp2;go_ret2;exact Gw) :G:=h
theorem pC {G:Prop} (h:G:=by
  rw [<-hsv];exact Nat.mod_lt _ Zf) :G:=h
theorem Ra {G:Prop} (h:G:=by
  go_wp2;go_ret;exact ⟨rfl,rfl⟩) :G:=h
theorem DI {G:Prop} (h:G:=by
  simpa using this) :G:=h
theorem Zmk {G:Prop} (h:G:=by
  intro W2 HD2 K2 S2;have Hi:=Za S2;have Sn:=Za K2;clear S2 K2;have Ub:Zu W2 h 3 (F++D.drop F.length).toArray/\ZA (fun i=>i=h) w W2/\W2.heap.size=w.heap.size:=zO
  exact zU) :G:=h
theorem ZiX {G:Prop} (h:G:=by
  obtain ⟨_,_,⟨rfl,rfl,h1,_⟩ | ⟨g',n',f,C,rfl,⟨h1,_⟩,_⟩⟩:=hi
  ·exact Zge
  ·exact Zge) :G:=h
theorem Zi1 {G:Prop} (h:G:=by
  have C8:ZA (fun i=>i=w.heap.size) w w1:=((ZA.refl _ w).alloc _).trans fQ (fun _ _ h=>h);have Sn:=Za C8;have GI:=Za WW;clear FN fQ IU C8 WW;go_wp2;go_ret;exact ⟨rfl,GI.o,ZA.below (Below.refl _ _) Sn.o (fun i hi=>by omega) (Nat.le_refl _)⟩) :G:=h
theorem Zi4 {G:Prop} (h:G:=by
  refine ⟨?_,?_,?_⟩
  ·have:=HD2.o;show W2.heap[h]?=_;simpa [splice] using this
  ·exact ((((ZA.refl _ w).drewN nq).drewN nr).trans OV.o (fun _ _ h=>h)).drewN ns |>.trans K2 (fun _ _ h=>h)
  ·exact S2.trans Ri.o) :G:=h
theorem Zm5 {G:Prop} (h:G:=by
  simp [Builtin.delete_,run_underlying ht,MapKept.run_getObj_map hb,K.check w _ FZ,f1,MapKept.run_setObj_map _ hb,Result.andThen,setBlock]) :G:=h
theorem Zi8 {G:Prop} (h:G:=by
  by_cases e:(n1:Int)< (size:Int)
  ·exact ⟨n1,by rw [if_pos e],by omega,by omega⟩
  ·exact ⟨size,by rw [if_neg e],by omega,by omega⟩) :G:=h
theorem Zi9 {G:Prop} (h:G:=by
  go_wp2;refine yC ?_;exact ⟨rfl,g,n,f,C,H3.o,H4.o,hn,fun i hi=> .inl hi,ZA.refl _ _⟩) :G:=h
theorem Zm9 {G:Prop} (h:G:=by
  have:=Cl (fun i=>(HZ.o i).1) (k+1) (len -(k+1));rw [show k+1+(len -(k+1))=len by omega,HS.o] at this;omega) :G:=h
theorem Zja {G:Prop} (h:G:=by
  by_cases e:(need:Int)< 2*(n:Int)
  ·exact ⟨2*n,by rw [if_pos e]; omega,by omega⟩
  ·exact ⟨need,by rw [if_neg e],by omega⟩) :G:=h
theorem yH {G:Prop} (h:G:=by
  have:=FN;rw [List.drop_of_length_le (by have:=HFl.o; have:=Wj.o; omega),List.append_nil] at this;exact this) :G:=h
theorem yL {G:Prop} (h:G:=by
  by_cases hfc:f+c<=n
  ·exact ⟨c,by omega,hfc,.inl rfl⟩
  ·exact ⟨n - f,by omega,by omega,.inr Zf⟩) :G:=h
theorem o5 {G:Prop} (h:G:=by
  rcases Nat.lt_or_ge j n with h | h
  ·exact h
  ·exact absurd hj (tail_waits hs hc hn inv _ i rfl C9 bW j h)) :G:=h
theorem yO {G:Prop} (h:G:=by
  have:=HC.o;rw [length_splice _ _ _ (by simp [Builtin.zeroCells,Value.cells]; omega)];exact this) :G:=h
theorem yR {G:Prop} (h:G:=by
  have HE:=Za Ub;clear Ub S2 K2;go_wp2
  all_goals
   go_end0;exact ⟨rfl,HE.o⟩) :G:=h
theorem yW {G:Prop} (h:G:=by
  go_enter func141,ntmps141;go_wp2;go_ret;exact ⟨by rw [H.o]; rfl,rfl⟩) :G:=h
theorem yZ {G:Prop} (h:G:=by
  go_wp2;go_quiet (fail);go_wp2;go_ret;exact ⟨Lh Zf,_,rfl⟩) :G:=h
theorem zc {G:Prop} (h:G:=by
  go_wp2;go_quiet (fail);go_wp2;go_ret;exact ⟨Lh ZE,_,rfl⟩) :G:=h
theorem zd {G:Prop} (h:G:=by
  have:=(FN.o.set_ 2 (.int .i64 s)).set_ 3 (.int .i64 c);exact this) :G:=h
theorem ze {G:Prop} (h:G:=by
  go_enter func256,ntmps256;exact Ra) :G:=h
theorem zi {G:Prop} (h:G:=by
  have h1:=Bh e he hb;rw [heq,getD_both bW] at h1
  cases h1) :G:=h
theorem Zf2 {G:Prop} (h:G:=by
  obtain ⟨rfl,rfl⟩:=hrel;go_wp2;go_ret2;exact ⟨rfl,rfl⟩) :G:=h
theorem zr {G:Prop} (h:G:=by
  first | exact hw | (rw [Nat.mul_one] at hw; exact hw)) :G:=h
theorem zz {G:Prop} (h:G:=by
  have:=(bx.cell 3).symm.trans c3;exact DI) :G:=h
theorem zG {G:Prop} (h:G:=by
  rw [List.getElem?_eq_none h1] at hv
  cases hv) :G:=h
theorem aQ {G:Prop} (h:G:=by
  rw [Array.length_toList,size_madeCells]) :G:=h
theorem zJ {G:Prop} (h:G:=by
  exact pC) :G:=h
theorem zK {G:Prop} (h:G:=by
  simp only [List.length_cons] at hF;omega) :G:=h
theorem zL {G:Prop} (h:G:=by
  rw [<-hp];exact Nat.mod_lt _ Zf) :G:=h
theorem UD {G:Prop} (h:G:=by
  exact Ra) :G:=h
theorem aS {G:Prop} (h:G:=by
  have:=HF.o;simp
  omega) :G:=h
theorem KX {G:Prop} (h:G:=by
  simp [intOf];omega) :G:=h
theorem Gw {G:Prop} (h:G:=by
  exact ⟨rfl,rfl⟩) :G:=h
section
open Go.RowKit
theorem TX (a b:Int) :min a b=if b < a then b else a:=Zf
theorem cn (a b:Int) :max a b=if a < b then b else a:=Zf
def Zu (w:Zc)(g:Nat)(t:ZL)(cs:Array Zl) :Prop:=w.heap[g]?=some (.cells cs t (0,0))
section
variable {w w':Zc} {g:Nat} {t:ZL} {cs:Array Zl}
theorem Zu.lt (h:Zu w g t cs) :g < w.heap.size:=by
 rcases YI g w.heap.size with XJ | TT
 ·exact XJ
 ·unfold Zu at h; rw [Array.getElem?_eq_none TT] at h; cases h
theorem Zu.cell (h:Zu w g t cs)(i:Nat) :w.cell? ⟨g,i,none⟩=cs[i]?:=cell_of_row w g i cs t (0,0) h
theorem Zu.frozen (h:Zu w g t cs)(i:Nat) :w.frozen? ⟨g,i,none⟩=false:=by
 unfold Zu at h;simp [World.frozen?,h]
theorem Zu.new (w:Zc)(t:ZL)(cs:Array Zl) :Zu (w.alloc (.cells cs t)) w.heap.size t cs:=heap_alloc_new w _
theorem Zu.drew (h:Zu w g t cs) :Zu w.drew g t cs:=h
theorem Zu.drewN (h:Zu w g t cs)(n:Nat) :Zu (w.drewN n) g t cs:=h
theorem Zu.alloc (h:Zu w g t cs)(o:Obj) :Zu (w.alloc o) g t cs:=(Ga w o g h.lt).trans h
theorem Zu.set_ (h:Zu w g t cs)(i:Nat)(u:Zl) :Zu (w.setCell ⟨g,i,none⟩ u) g t (cs.setIfInBounds i u):=by
 unfold Zu at h ⊢;simp [World.setCell,Array.getElem?_modify,h]
theorem Zu.far (h:Zu w g t cs){p:Addr}(hp:g≠p.block)(u:Zl) :Zu (w.setCell p u) g t cs:=(Xr w p u g hp).trans h
theorem Zu.below {B:Nat}(h:Zu w g t cs)(hb:Zp B w w')(hg:g < B) :Zu w' g t cs:=(hb.block g hg).trans h
theorem Zu.grown {row:Option Nat}(h:Zu w g t cs)(hb:w.grownBy w' row)(hg:some g≠row) :Zu w' g t cs:=(hb.block g h.lt hg).trans h
end
section
variable {P:YV} {f:Gx} {args:Array Zl} {w:Zc} {a n:Nat} {v:Zl}
theorem Dj (h:Zv P f args (w.drewN n) fun e w'=>e= .returned v/\w.drewN n=w') :Zv P f args (w.drewN n) fun e w''=>e= .returned v/\ ∃m,w''=w.drewN m:=
 h.mono fun _ _ ⟨he,hm⟩=>⟨he,n,hm.symm⟩
end
theorem K9 (a:Zc)(row:Option Nat) :a.grownBy a row:=⟨rfl,rfl,rfl,Zh _,fun _ _ _=>rfl⟩
theorem AB {a b c:Zc}{row:Option Nat}(h:a.grownBy b row)(k:b.grownBy c row) :a.grownBy c row:=
 ⟨k.os.trans h.os,k.tape.trans h.tape,k.output.trans h.output,ZZ h.size k.size,fun i hi hn=>(k.block i (YC hi h.size) hn).trans (h.block i hi hn)⟩
theorem US {a w:Zc}{row:Option Nat}(h:a.grownBy w row)(n:Nat) :a.grownBy (w.drewN n) row:=⟨h.os,h.tape,h.output,h.size,h.block⟩
theorem ae {a w:Zc}{row:Option Nat}(h:a.grownBy w row) :a.grownBy w.drew row:=⟨h.os,h.tape,h.output,h.size,h.block⟩
theorem EB {a w:Zc}{row:Option Nat}(h:a.grownBy w row)(o:Obj) :a.grownBy (w.alloc o) row:=
 ⟨h.os,h.tape,h.output,ZZ h.size ZE,fun i hi Kj=>(Ga w o i (YC hi h.size)).trans (h.block i hi Kj)⟩
theorem QX {a w:Zc}{g:Nat}(h:a.grownBy w (some g)){p:Addr}(hp:p.block=g\/a.heap.size<=p.block)(u:Zl) :a.grownBy (w.setCell p u) (some g):=
 ⟨h.os,h.tape,h.output,by simpa [World.setCell] using h.size,fun i hi Kj=>(Xr w p u i (by
  rintro rfl
  rcases hp with hp | hp
  ·exact Kj (by rw [hp])
  ·omega)).trans (h.block i hi Kj)⟩
theorem FC {a w:Zc}(h:Zp a.heap.size a w)(row:Option Nat) :a.grownBy w row:=⟨h.os,h.tape,h.output,h.size,fun i hi _=>h.block i hi⟩
theorem Db {B g:Nat}{a w w':Zc}(h:Zp B a w)(hg:w.grownBy w' (some g))(hB:B<=w.heap.size)(hr:B<=g) :Zp B a w':=
 h.grown hg hB (fun k hk=>by injection hk with hk; omega)
theorem add_plain (b off i:Nat) :(⟨b,off,none⟩ :Addr).add i=⟨b,off+i,none⟩:=by
 unfold Addr.add
 by_cases h:i=0 <;> simp [h]
theorem GW {w:Zc}{p:Addr}{v:Zl}(h:w.cell? p=some v) :p.block < w.heap.size:=by
 rcases YI p.block w.heap.size with hl | hl
 ·exact hl
 ·simp [World.cell?,Array.getElem?_eq_none hl] at h
theorem Lh {k:IntKind}{a b:Int}(h:a=b) :Kf (.int k a)= .returned (.int k b):=by rw [h]
theorem Uo {a b:Bool}(h:a=b) :Kf (.bool a)= .returned (.bool b):=by rw [h]
end
section
open Go.RowKit
structure ZA (S:Nat->Prop)(w w':Zc) :Prop where
 os:w'.os=w.os
 tape:w'.tape=w.tape
 output:w'.output=w.output
 size:w.heap.size<=w'.heap.size
 block: ∀i,i < w.heap.size-> ¬S i->w'.heap[i]?=w.heap[i]?
section
variable {S T:Nat->Prop} {a w w' c:Zc} {B g:Nat} {t:ZL} {cs:Array Zl}
theorem ZA.refl (S:Nat->Prop)(w:Zc) :ZA S w w:=⟨rfl,rfl,rfl,Zh _,fun _ _ _=>rfl⟩
theorem ZA.trans (h:ZA S a w)(k:ZA T w c)(hT: ∀i,i < a.heap.size->T i->S i) :ZA S a c:=
 ⟨k.os.trans h.os,k.tape.trans h.tape,k.output.trans h.output,ZZ h.size k.size,fun i hi hn=>(k.block i (YC hi h.size) (fun ht=>hn (hT i hi ht))).trans (h.block i hi hn)⟩
theorem ZA.drewN (h:ZA S a w)(n:Nat) :ZA S a (w.drewN n):=⟨h.os,h.tape,h.output,h.size,h.block⟩
theorem ZA.drew (h:ZA S a w) :ZA S a w.drew:=⟨h.os,h.tape,h.output,h.size,h.block⟩
theorem ZA.alloc (h:ZA S a w)(o:Obj) :ZA S a (w.alloc o):=
 ⟨h.os,h.tape,h.output,ZZ h.size ZE,fun i hi hn=>(Ga w o i (YC hi h.size)).trans (h.block i hi hn)⟩
theorem ZA.setCell (h:ZA S a w){p:Addr}(hp:S p.block\/a.heap.size<=p.block)(u:Zl) :ZA S a (w.setCell p u):=
 ⟨h.os,h.tape,h.output,by simpa [World.setCell] using h.size,fun i hi hn=>(Xr w p u i (by
  rintro rfl
  rcases hp with hp | hp
  ·exact hn hp
  ·omega)).trans (h.block i hi hn)⟩
theorem ZA.setRow (h:ZA S a w){g:Nat}(hp:S g\/a.heap.size<=g)(cs:Array Zl) :ZA S a (w.setRow g cs):=
 ⟨h.os,h.tape,h.output,by simpa using h.size,fun i hi hn=>(setRow_other w g i cs (by
  rintro rfl
  rcases hp with hp | hp
  ·exact hn hp
  ·omega)).trans (h.block i hi hn)⟩
theorem ZA.below (hb:Zp B a w)(h:ZA S w w')(hS: ∀i,S i->B<=i)(hB:B<=w.heap.size) :Zp B a w':=
 hb.trans ⟨h.os,h.tape,h.output,h.size,fun i hi=>h.block i Zf (fun hs=>by have:=hS i hs; omega)⟩
theorem ZA.of_below (h:Zp a.heap.size a w) :ZA S a w:=⟨h.os,h.tape,h.output,h.size,fun i hi _=>h.block i hi⟩
theorem ZA.of_grown {row:Option Nat}(h:a.grownBy w row)(hr: ∀i,some i=row->S i) :ZA S a w:=⟨h.os,h.tape,h.output,h.size,fun i hi hn=>h.block i hi (fun e=>hn (hr i e))⟩
theorem ZA.more (h:ZA S a w)(hS: ∀i,i < a.heap.size->S i->T i) :ZA T a w:=⟨h.os,h.tape,h.output,h.size,fun i hi hn=>h.block i hi (fun hs=>hn (hS i hi hs))⟩
theorem ZA.more_new (h:ZA (fun i=>i=a.heap.size) a w) :ZA T a w:=h.more fun i hi e=>by omega
theorem Zu.kept (h:Zu w g t cs)(k:ZA S w w')(hg: ¬S g) :Zu w' g t cs:=(k.block g h.lt hg).trans h
theorem ZA.cell (k:ZA S w w'){p:Addr}(hp: ¬S p.block){v:Zl}(h:w.cell? p=some v) :w'.cell? p=some v:=
 (World.cell?_of_block (w:=w) (k.block p.block (GW h) hp)).trans h
theorem ZA.frozen (k:ZA S w w'){p:Addr}(hp: ¬S p.block)(hb:p.block < w.heap.size) :w'.frozen? p=w.frozen? p:=World.frozen?_of_block (w:=w) (k.block p.block hb hp)
theorem Zu.setRow (h:Zu w g t cs)(cs':Array Zl) :Zu (w.setRow g cs') g t cs':=YH w g cs cs' t (0,0) h
theorem Zu.setRow_far (h:Zu w g t cs){k:Nat}(hk:g≠k)(cs':Array Zl) :Zu (w.setRow k cs') g t cs:=(setRow_other w k g cs' hk).trans h
theorem Zu.ne_ {g':Nat}{t':ZL}{cs':Array Zl}(h:Zu w g t cs)(h':Zu w g' t' cs')(Kj:t≠t') :g≠g':=by
 rintro rfl;unfold Zu at h h';rw [h] at h';injection h' with h';injection h' with _ ht;exact Kj ht
end
section
variable {P:YV}
theorem Il (w:Zc)(dT sT ty elem:ZL)(g o Ts jT:Nat)(a:Addr)(TE mi k:Nat)(cur:Array Zl)(t:ZL)(cs:List Zl)
  (hu:P.underlying dT=some (.slice elem)) (hs:(P.info? elem).map (·.size)=some k)
  (hg:w.heap[g]?=some (.cells cur t (0,0))) (hn:cs.length=Nat.min TE Ts*k)
  (FB: ∀j v,cs[j]?=some v->w.cell? (a.add j)=some v) (DB:o+cs.length<=cur.size) (h1: ∀v ∈ cs,v.oneCell'=true) :
  (Builtin.copy_ #[dT,sT] ty #[.slice (some ⟨g,o,none⟩) Ts jT,.slice (some a) TE mi]).run P w= .ok (goInt (Nat.min TE Ts)) (w.setRow g (Vw cur.toList o cs).toArray):=by
 have hl:=run_loadCells_list (P:=P) w a cs FB;have GN:=run_storeCells_at P g o t cs 0 cur w hg (by simpa using DB) h1
 cases hq:P.info? elem with
 | none=>simp [hq] at hs
 | some i=>
  have hi:i.size=k:=by simpa [hq] using hs
  rw [hn] at hl;simp [Builtin.copy_,Xf hu,Builtin.lenOf,V5,sizeOf,VR,hq,hi,hl,GN,Vw]
theorem Cd (w:Zc)(dT sT ty elem:ZL)(d a:Option Addr)(Ts jT TE mi:Nat)(hu:P.underlying dT=some (.slice elem))(hs:((P.info? elem).map (·.size)).isSome=true)(hn:Nat.min TE Ts=0) :
  (Builtin.copy_ #[dT,sT] ty #[.slice d Ts jT,.slice a TE mi]).run P w= .ok (goInt 0) w:=by
 cases hq:P.info? elem with
 | none=>simp [hq] at hs
 | some i=>
  have hl: ∀(x:Addr),(loadCells x 0).run P w= .ok #[] w:=fun x=>by simpa using run_loadCells_list (P:=P) w x [] ZE
  cases d <;> cases a <;> simp [Builtin.copy_,Xf hu,Builtin.lenOf,V5,sizeOf,VR,hq,hn,storeCells,hl]
theorem Xg {w:Zc}{ops:Array Oper}{rest:List Oper}{o:Oper}{a:Act}{Q:Exit->Act->Zc->Prop}(DD:o.guard=none)(d s:YW)(dT sT:ZL)
  (ho:o.op= .call { callee:= .builtin .copy,args:= #[d,s],argTypes:= #[dT,sT]}) (elem:ZL) (hu:P.underlying dT=some (.slice elem)) (k:Nat) (hk:0 < k) (BK:(P.info? elem).map (·.size)=some k)
  (dp sp:Option Addr) (Ts jT TE mi:Nat) (hd:a.eval d= .slice dp Ts jT) (hs:a.eval s= .slice sp TE mi)
  (g off:Nat) (cur:List Zl) (t:ZL) (hg:w.heap[g]?=some (.cells cur.toArray t (0,0))) (cs:List Zl) (m:Nat) (hm:m=Nat.min TE Ts) (hn:cs.length=m*k)
  (Ak:0 < cs.length->dp=some ⟨g,off,none⟩/\ ∃ad,sp=some ad/\ ∀j v,cs[j]?=some v->w.cell? (ad.add j)=some v)
  (DB:off+cs.length<=cur.length) (h1: ∀v ∈ cs,v.oneCell'=true)
  (h: ∀w',Zj (w'.heap[g]?=some (.cells (Vw cur off cs).toArray t (0,0)))->ZA (fun i=>i=g) w w'->w'.heap.size=w.heap.size->Y2 P ops Q rest (a.put o.dst (goInt m)) w') :
  Y2 P ops Q (o::rest) a w:=by
 refine Ju DD fun K hK=>?_
 subst hm
 by_cases h0:cs.length=0
 ·obtain rfl:cs=[]:=ZO h0;have hz:Nat.min TE Ts=0:=by
   simp only [List.length_nil] at hn
   rcases Nat.mul_eq_zero.1 hn.symm with h2 | h2
   ·exact h2
   ·omega
  have BJ:=Cd (P:=P) w dT sT o.type elem dp sp Ts jT TE mi hu (by rw [BK]; rfl) hz;unfold Jj;simp [XU,ho,resolve,invoke,builtin,hd,hs,BJ,Xd];have:=h w (show _=_ by simpa [Vw] using hg) (ZA.refl _ _) rfl;rw [hz] at this;exact hK _ _ this
 ·obtain ⟨rfl,ad,rfl,FB⟩:=Ak Zf;have BJ:=Il (P:=P) w dT sT o.type elem g off Ts jT ad TE mi k cur.toArray t cs hu BK hg hn FB (by simpa using DB) h1;unfold Jj;simp [XU,ho,resolve,invoke,builtin,hd,hs,BJ,Xd];exact hK _ _ (h _ (show _=_ by simpa using YH w g _ _ t _ hg) (ZA.setRow (S:=fun i=>i=g) (ZA.refl _ _) (.inl rfl) _) ZE)
theorem Cc (w:Zc)(T ty elem:ZL)(z:Zl)(hu:P.underlying T=some (.slice elem))(hv: ∀w,(Ke elem).run P w= .ok z w)(h1: ∀v ∈ z.cells.toList,v.oneCell'=true)(g o n c:Nat)(hn:0 < n)(cur:Array Zl)(t:ZL)
  (hg:w.heap[g]?=some (.cells cur t (0,0))) (DB:o+n*z.cells.size<=cur.size) :
  (Builtin.clear_ #[T] ty #[.slice (some ⟨g,o,none⟩) n c]).run P w= .ok (.tuple #[]) (w.setRow g (Vw cur.toList o (Y3 z.cells n).toList).toArray):=by
 have hlen:(Y3 z.cells n).toList.length=n*z.cells.size:=by simp [Y3]
 have Ai: ∀v ∈ (Y3 z.cells n).toList,v.oneCell'=true:=by
  intro v hv';simp only [Y3,Array.toList_map,Yc,GZ,XT] at hv';obtain ⟨i,hi,rfl⟩:=hv';have Ak:0 < z.cells.size:=by
   rcases Qz z.cells.size with h0 | h0
   ·rw [h0,Nat.mul_zero] at hi; omega
   ·exact h0
  have XJ:i%z.cells.size < z.cells.size:=JK _ Ak;refine h1 _ ?_;rw [getElem!_pos z.cells _ XJ];exact Array.getElem_mem_toList XJ
 have GN:=run_storeCells_at P g o t (Y3 z.cells n).toList 0 cur w hg (by simp only [Nat.add_zero]; rw [hlen]; exact DB) Ai;obtain ⟨m,rfl⟩ : ∃m,n=m+1:=⟨n - 1,by omega⟩;simp only [Nat.add_zero] at GN;simp [Builtin.clear_,Xf hu,hv,GN,Vw]
theorem FJ {w:Zc}{ops:Array Oper}{rest:List Oper}{o:Oper}{a:Act}{Q:Exit->Act->Zc->Prop}(DD:o.guard=none)(s:YW)(T:ZL)
  (ho:o.op= .call { callee:= .builtin .clear,args:= #[s],argTypes:= #[T]}) (elem:ZL) (hu:P.underlying T=some (.slice elem)) (z:Zl) (hv: ∀w,(Ke elem).run P w= .ok z w) (h1: ∀v ∈ z.cells.toList,v.oneCell'=true)
  (g off n c:Nat) (hs:a.eval s= .slice (some ⟨g,off,none⟩) n c) (hn:0 < n) (cur:List Zl) (t:ZL) (hg:w.heap[g]?=some (.cells cur.toArray t (0,0))) (DB:off+n*z.cells.size<=cur.length)
  (h: ∀w',Zj (w'.heap[g]?=some (.cells (Vw cur off (Y3 z.cells n).toList).toArray t (0,0)))->ZA (fun i=>i=g) w w'->Y2 P ops Q rest (a.put o.dst (.tuple #[])) w') :
  Y2 P ops Q (o::rest) a w:=by
 refine Ju DD fun K hK=>?_
 have BJ:=Cc (P:=P) w T o.type elem z hu hv h1 g off n c hn cur.toArray t hg (by simpa using DB);unfold Jj;simp [XU,ho,resolve,invoke,builtin,hs,BJ,Xd];exact hK _ _ (h _ (show _=_ by simpa using YH w g _ _ t _ hg) (ZA.setRow (S:=fun i=>i=g) (ZA.refl _ _) (.inl rfl) _))
end
end
section
open Go.RowKit
section
variable {P:YV} {ops:Array Oper} {C:Zc->Prop} {Q:Act->Prop} {a:Act} {o:Oper} {rest:List Oper}
theorem DX (v:Zl)(hw:X3 o (Ue ops a.tmps)=true)(hv: ∀w,(XU a.eval o).run P w= .ok (.value v) w)(h:Yl P ops C Q rest (a.put o.dst v)) :Yl P ops C Q (o::rest) a:=by
 unfold Yl;rw [if_pos hw];exact ⟨v,fun w _=>by unfold V8; rw [hv]; exact ⟨rfl,rfl⟩,h⟩
theorem cJ (v:Zl)(hw:X3 o (Ue ops a.tmps)=true)(hv: ∀w,C w->(XU a.eval o).run P w= .ok (.value v) w)(h:Yl P ops C Q rest (a.put o.dst v)) :Yl P ops C Q (o::rest) a:=by
 unfold Yl;rw [if_pos hw];exact ⟨v,fun w hc=>by unfold V8; rw [hv w hc]; exact ⟨rfl,rfl⟩,h⟩
theorem Jb (ty:ZL)(x:YW)(b:Nat)(t:ZL)(cs:Array Zl)(d:TypeDesc)(hw:X3 o (Ue ops a.tmps)=true)(ho:o.op= .load ty x)(hx:a.eval x= .pointer (some ⟨b,0,none⟩))
  (hC: ∀w,C w->Zu w b t cs) (hu:P.underlying ty=some d) (hd:(match d with | .struct _ | .array _ _=>true | _=>false)=true) (hi:(P.info? ty).map (·.size)=some cs.size)
  (h:Yl P ops C Q rest (a.put o.dst (.agg cs))) :Yl P ops C Q (o::rest) a:=by
 refine cJ (.agg cs) hw (fun w hc=>?_) h;unfold XU;simp only [ho,hx,Instr.loadAt,Instr.sureAddr,Yq,YX,ZY,run_loadVar_row w b t ty cs (0,0) d (hC w hc) hu hd hi]
theorem RR {dst:Option Tmp}{f:Gx}{xs:Array YW}{ats:Array ZL}{ty:ZL}{pos:String}{after:Array Edge}{guard:Option (Nat × Bool)}(v:Zl)(vs:Array Zl)
  (hw:X3 { dst,op:= .call { callee:= .value (.func f),args:=xs,argTypes:=ats},type:=ty,pos,after,guard} (Ue ops a.tmps)=true)
  (hvs: #[]++xs.map a.eval++ #[]=vs) (Um: ∀args w,(callFunc f args).run P w= .ok (.enter f args) w)
  (hC: ∀w,C w->Zv P f vs w fun e w'=>e= .returned v/\C w') (h:Yl P ops C Q rest (a.put dst v)) :
  Yl P ops C Q ({ dst,op:= .call { callee:= .value (.func f),args:=xs,argTypes:=ats},type:=ty,pos,after,guard}::rest) a:=by
 unfold Yl;rw [if_pos hw];refine ⟨v,fun w hc=>?_,h⟩;unfold V8;have e:XU a.eval { dst,op:= .call { callee:= .value (.func f),args:=xs,argTypes:=ats},type:=ty,pos,after,guard}=callFunc f (#[]++xs.map a.eval++ #[]):=rfl;rw [e,Um,hvs];exact ⟨rfl,hC w hc⟩
theorem Kk {P:YV}{id:Nat}{Q:Exit->Act->Zc->Prop}{a:Act}{w:Zc}{l:List Oper}(C:Zc->Prop)(hm:P.follows .mixedOrders=true)(hB:Region.lexB .any l.toArray=true)(hC:C w.drew)
  (h:Yl P l.toArray C (fun a'=> ∀w',C w'->Q .normal a' w') l a) :(VS id l.toArray true).wp P Q a w:=
 wp_region_quiet (C:=C) hm hB hC KM
end
section
variable {P:YV} {ops:Array Oper} {Q:Exit->Act->Zc->Prop} {a:Act} {w:Zc} {rest:List Oper} {o:Oper}
theorem KD (hw:X3 o (Ue ops a.tmps)=true)(ty:ZL)(x:YW)(ho:o.op= .load ty x)
  (g:Nat) (hx:a.eval x= .pointer (some ⟨g,0,none⟩)) (t:ZL) (cs:Array Zl) (fr:Nat × Nat) (d:TypeDesc) (hg:w.heap[g]?=some (.cells cs t fr))
  (hu:P.underlying ty=some d) (hd:(match d with | .struct _ | .array _ _=>true | _=>false)=true) (hi:(P.info? ty).map (·.size)=some cs.size)
  (h:Y2 P ops Q rest (a.put o.dst (.agg cs)) w) :Y2 P ops Q (o::rest) a w:=by
 unfold Y2;rw [if_pos hw];exact .inl (wp_load_row ty x ho g hx t cs fr d hg hu hd hi h)
theorem Na (v:Zl)(hw:X3 o (Ue ops a.tmps)=true)(hv:(XU a.eval o).run P w= .ok (.value v) w)(h:Y2 P ops Q rest (a.put o.dst v) w) :Y2 P ops Q (o::rest) a w:=by
 unfold Y2;rw [if_pos hw];refine .inl ?_;unfold Jj;rw [hv];exact h
end
def GJ (B b t:Nat)(cs:Array Zl)(w w':Zc) :Prop:=Zu w' b t cs/\Zp B w w'/\B<=w'.heap.size
theorem GJ.call {P:YV}{f:Gx}{vs:Array Zl}{v:Zl}{B b t:Nat}{cs:Array Zl}{w0 w:Zc}(hk:GJ B b t cs w0 w)
  (h:Zv P f vs w fun e w'=>e= .returned v/\Zp w.heap.size w w') :Zv P f vs w fun e w'=>e= .returned v/\GJ B b t cs w0 w':=
 h.mono fun _ _ ⟨he,hb⟩=>⟨he,hk.1.below hb hk.1.lt,hk.2.1.trans (hb.mono hk.2.2),ZZ hk.2.2 hb.size⟩
theorem GJ.drew {B b t:Nat}{cs:Array Zl}{w0 w:Zc}(hk:GJ B b t cs w0 w) :GJ B b t cs w0 w.drew:=⟨hk.1,hk.2.1.drew,hk.2.2⟩
theorem GJ.new {B t:Nat}{cs:Array Zl}{w0 w:Zc}(hk:Zp B w0 w)(hB:B<=w.heap.size) :GJ B w.heap.size t cs w0 (w.alloc (.cells cs t)):=
 ⟨Zu.new w t cs,hk.alloc hB _,by simp; omega⟩
end
section
open Go.RowKit
section
variable {P:YV} {ops:Array Oper} {md:J9} {C:Zc->Prop}
def Ct (P:YV)(md:J9)(ops:Array Oper)(C:Zc->Prop)(n:Nat)(L:Array Bool->Act->Prop) :Nat->Array Bool->Act->Prop
 | 0,Zt,a=>L Zt a
 | f+1,Zt,a=>
  YA md ops Zt≠ []/\ ∀i ∈ YA md ops Zt,i < n/\qOp P ops C i (Ct P md ops C n L f (Zt.setIfInBounds i true)) a
theorem LP {n g:Nat}{L:Array Bool->Act->Prop}{Q':Exit->Act->Zc->Prop}(hL: ∀Zt a w,C w->L Zt a->wpAny P md ops Q' g Zt a w) :
  ∀(f:Nat) (Zt:Array Bool) (a:Act) (w:Zc),C w->Ct P md ops C n L f Zt a->wpAny P md ops Q' (f+g) Zt a w
 | 0,Zt,a,w,hw,h=>by rw [ZW]; exact hL _ _ _ hw h
 | f+1,Zt,a,w,hw,h=>by
  rw [show f+1+g=(f+g)+1 by omega];exact ⟨fun h0=>absurd h0 h.1,fun i hi=>wpOp_of_qOp hw (fun a' w' JG h'=>LP hL f _ a' w' JG h') (h.2 i hi).2⟩
theorem du {n i:Nat}{oi:Oper}{v:Zl}{L:Array Bool->Act->Prop}(hi:ops[i]?=some oi)(Dh: ∀(j:Nat) (o:Oper) cs b,ops[j]?=some o->o.op≠ .select cs b)
  (hs:Vi md ops n=true) (hc:Vp md ops n=true) (hn:n < ops.size) (C9:i < n)
  (FW: ∀Zt a,L Zt a-> ∀j ∈ YA md ops Zt,n<=j) :
  ∀(f:Nat) (Zt:Array Bool) (a:Act),HeadInv md ops n Zt->
   (∀j oj,ops[j]?=some oj->j≠i->Zt.getD j true=false->(∀e ∈ oj.after,Xp md e=true->e.on≠i)->oi.apart ops oj=true)->
   i ∈ YA md ops Zt->YieldsIn P ops C oi v a->
   Ct P md ops C n L f (Zt.setIfInBounds i true) (a.put oi.dst v)->Ct P md ops C n L (f+1) Zt a:=by
 intro f
 induction f with
 | zero=>
  intro Zt a inv _ hr hy H;have bW:=(mem_ready.1 hr).1;refine ⟨fun h=>Sh,fun j hj=>?_⟩;have Ei:j < n:=o5
  refine ⟨Ei,?_⟩
  by_cases Pu:j=i
  ·subst Pu; exact hy.qOp hi H
  ·have:=FW _ _ H j (UW hj Pu);omega
 | succ f ih=>
  intro Zt a inv NU hr hy H;have bW:=(mem_ready.1 hr).1;refine ⟨fun h=>Sh,fun j hj=>?_⟩;have Ei:j < n:=o5
  refine ⟨Ei,?_⟩
  by_cases Pu:j=i
  ·subst Pu; exact hy.qOp hi H
  ·have h1:=(H.2 j (UW hj Pu)).2;obtain ⟨fW,oj,vZ,Bh⟩:=mem_ready.1 hj;have Hy: ∀e ∈ oj.after,Xp md e=true->e.on≠i:=fun e he hb heq=>by
    exact zi
   have h2:=qOp_put vZ (NU j oj vZ Pu fW Hy) (fun cs b=>Dh i oi cs b hi) (fun cs b=>Dh j oj cs b vZ) hy h1;have Ac: ∀k ok,ops[k]?=some ok->k≠i->(Zt.setIfInBounds j true).getD k true=false->
     (∀e ∈ ok.after,Xp md e=true->e.on≠i)->oi.apart ops ok=true:=fun k ok hk hki bW vY=>by
    refine NU k ok hk hki ?_ vY
    by_cases FY:j=k
    ·subst FY; exact fW
    ·rw [getD_set_ne true FY] at bW; exact bW
   refine qOp_mono (fun a' h3=>ih (Zt.setIfInBounds j true) a' (inv.set hj Ei) Ac (UW hr (Ji Pu)) h3.1 ?_) h2;rw [Array.setIfInBounds_comm _ _ Pu];exact h3.2
theorem Cv {n g:Nat}{Lq:Act->Prop}(Dh:Region.noSelect ops=true)(hs:Vi md ops n=true)(hc:Vp md ops n=true)(hn:n < ops.size) :
  ∀(l:List Oper) (k:Nat) (Zt:Array Bool) (a:Act),(∀j,j < l.length->l[j]?=ops[k+j]?)->k+l.length=n->HeadInv md ops n Zt->
  Region.lexHead md ops g l.length k Zt=true->Yl P ops C Lq l a->
  Ct P md ops C n (fun od a'=>Region.seqB md ops g n od=true/\Lq a') l.length Zt a
 | [],k,Zt,a,_,hk,_,hB,h=>by
  have:k=n:=by simpa using hk
  subst this;exact ⟨by simpa [Region.lexHead] using hB,h⟩
 | o::l,k,Zt,a,hl,hk,inv,hB,h=>by
  have h0:ops[k]?=some o:=by simpa using (hl 0 ZE).symm
  simp only [Yg,Region.lexHead,YL] at hB;obtain ⟨⟨hr,hf⟩,hB'⟩:=hB;have L4:k < n:=by simp only [Yg] at hk; omega
  have hr':k ∈ YA md ops Zt:=by simpa using hr
  have GN:qOp P ops C k (Yl P ops C Lq l) a:=by unfold qOp; simp only [h0]; exact h
  obtain ⟨v,hy,hK⟩:=yieldsIn_of_qOp h0 GN;exact du h0 (Region.noSelect_spec Dh) hs hc hn L4 (fun od a' hL=>seqB_ready hL.1) l.length Zt a inv (Region.free_spec h0 hf) hr' hy
   (Cv Dh hs hc hn l (k+1) _ _ (fun j hj=>by have:=hl (j+1) Xo; simpa [Jn,Nat.add_comm 1 j] using this) (by simp only [Yg] at hk; omega) (inv.set hr' L4) hB' hK)
theorem Nc {id:Nat}{Q:Exit->Act->Zc->Prop}{a:Act}{w:Zc}{l:List Oper}(C:Zc->Prop)(n:Nat)(hm:P.follows .mixedOrders=true)(hB:Uk .any l.toArray n=true)(hC:C w.drew)
  (h:Yl P l.toArray C (fun a'=> ∀w',C w'->Y2 P l.toArray Q (l.drop n) a' w') (l.take n) a) :(VS id l.toArray true).wp P Q a w:=by
 simp only [Uk,YL,decide_eq_true_eq] at hB;obtain ⟨⟨⟨⟨Dh,hn⟩,hs⟩,hc⟩,hlex⟩:=hB;have hn':n < l.length:=by simpa using hn
 have nY:(l.take n).length=n:=Xo;have hdl:(l.drop n).length=l.toArray.size - n:=ZE;have inv0:HeadInv .any l.toArray n (Array.replicate l.toArray.size false):=
  ⟨by simp,fun j oj _ hl=>(by rw [UP] at hl; cases hl),fun t _ ht=>getD_in (by simpa using ht) (UP _ _)⟩
 have H:=Cv (md:= .any) (g:=l.toArray.size - n) Dh hs hc hn (l.take n) 0 _ a (fun j hj=>by
  have SI:j < n:=by rw [nY] at hj; exact hj
  simp [SI]) (by simpa using nY) inv0 (by rw [nY]; exact hlex) h
 refine wp_region_any hm ?_;have:=LP (Q':=Q) (g:=l.toArray.size - n) (fun Zt a' w' JG hL=>by
  have:=wpAny_of_seq (md:= .any) (Q':=Q) (l.drop n) n Zt a' w' (fun j=>by simp [Qi]) (by rw [hdl]; exact hL.1) (hL.2 _ JG);rwa [hdl] at this) _ _ _ w.drew hC H
 rw [nY,show n+(l.toArray.size - n)=l.toArray.size by omega] at this;exact this
theorem Nd {id:Nat}{Q:Exit->Act->Zc->Prop}{a:Act}{w:Zc}{l:List Oper}(n:Nat)(hm:P.follows .mixedOrders=true)(hB:Uk .any l.toArray n=true)
  (h:Yl P l.toArray (fun w'=> ∃n,w'=w.drewN n) (fun a'=> ∀w',(∃n,w'=w.drewN n)->Y2 P l.toArray Q (l.drop n) a' w') (l.take n) a) :(VS id l.toArray true).wp P Q a w:=
 Nc (fun w'=> ∃n,w'=w.drewN n) n hm hB ⟨1,rfl⟩ h
end
end
section
def QY {α:Type}(C:List α)(f:Nat)(F:List α) :Prop:=F.length<=C.length/\f < C.length/\ ∀t v,F[t]?=some v->C[(f+t)%C.length]?=some v
theorem ZdK {N s:Nat}(h:s < 2*N) :(s < N/\s%N=s)\/(N<=s/\s%N=s - N):=by
 rcases YI s N with h1 | h1
 ·exact .inl ⟨h1,KB h1⟩
 ·refine .inr ⟨h1,?_⟩;rw [Nat.mod_eq_sub_mod h1];exact KB Zf
theorem Dk {α:Type}(L:List α)(off:Nat)(cs:List α)(h:off+cs.length<=L.length)(p:Nat) :
  (Vw L off cs)[p]?=if p < off then L[p]? else if p < off+cs.length then cs[p - off]? else L[p]?:=by
 unfold Vw;have hl:(L.take off).length=off:=Xo
 by_cases h1:p < off
 ·rw [if_pos h1,Yw Zf,Jm h1]
 ·rw [if_neg h1,YY Zf,hl]
  by_cases h2:p < off+cs.length
  ·rw [if_pos h2,Yw Zf]
  ·rw [if_neg h2,YY Zf,Qi]
   congr 1
   omega
section
variable {α:Type} {C F:List α} {f:Nat}
theorem QY.read1 (h:QY C f F){u:Nat}(hu:f+u<=C.length)(j:Nat)(v:α)(hv:(F.take u)[j]?=some v) :C[f+j]?=some v:=by
 have hj:j < u:=by
  rcases YI j u with h1 | h1
  ·exact h1
  ·rw [XV Xo] at hv; cases hv
 rw [Jm hj] at hv;have:=h.2.2 j v hv;rwa [KB Zf] at this
theorem QY.read2 (h:QY C f F)(j:Nat)(v:α)(hv:(F.drop (C.length - f))[j]?=some v) :C[j]?=some v:=by
 rw [Qi] at hv;have hj:C.length - f+j < F.length:=by
  rcases YI (C.length - f+j) F.length with h1 | h1
  ·exact h1
  ·exact zG
 obtain ⟨h1,h2,h3⟩:=h;have:=h3 _ v hv;rw [show f+(C.length - f+j)=C.length+j by omega,Nat.add_mod_left,KB Zf] at this;exact this
theorem QY.of_prefix {Z:List α}(h:0 < (F++Z).length) :QY (F++Z) 0 F:=by
 refine ⟨by simp,h,fun t v hv=>?_⟩;have ht:t < F.length:=by
  rcases YI t F.length with h1 | h1
  ·exact h1
  ·exact zG
 rw [ZW,KB Xo,Yw ht];exact hv
theorem QY.push (h:QY C f F){cs:List α}(hc:F.length+cs.length<=C.length){s u:Nat}(hs:s=(f+F.length)%C.length)(hu:u=min cs.length (C.length - s)) :
  QY (Vw (Vw C s (cs.take u)) 0 (cs.drop u)) f (F++cs):=by
 obtain ⟨h1,h2,h3⟩:=h;have hsN:s < C.length:=by rw [hs]; exact JK _ Zf
 have l1:(cs.take u).length=u:=Xo;have l2:(cs.drop u).length=cs.length - u:=ZE;have e1:(Vw C s (cs.take u)).length=C.length:=JI _ _ _ Zf;have e2:(Vw (Vw C s (cs.take u)) 0 (cs.drop u)).length=C.length:=by rw [JI _ _ _ Zf,e1]
 refine ⟨by rw [e2]; simpa using hc,by omega,fun t v hv=>?_⟩;rw [e2,Dk _ _ _ Zf,Dk _ _ _ Zf,l1,l2];have hws:=ZdK (N:=C.length) (s:=f+F.length) Zf;rw [<-hs] at hws;have ht:t < F.length+cs.length:=by
  rcases YI t (F.length+cs.length) with h4 | h4
  ·exact h4
  ·rw [XV (by simpa using h4)] at hv; cases hv
 have hwt:=ZdK (N:=C.length) (s:=f+t) Zf;generalize hp:(f+t)%C.length=p at*
 by_cases htF:t < F.length
 ·rw [Yw htF] at hv;have:=h3 t v hv;rw [hp] at this;rw [if_neg Zf,if_neg Zf]
  by_cases h5:p < s
  ·rw [if_pos h5]; exact this
  ·rw [if_neg h5,if_neg Zf]; exact this
 ·rw [YY Zf] at hv;rw [if_neg Zf]
  by_cases hr:t - F.length < u
  ·rw [if_neg Zf,if_neg Zf,if_pos Zf,Jm Zf,show p - s=t - F.length by omega];exact hv
  ·rw [if_pos Zf,Qi,show u+(p - 0)=t - F.length by omega];exact hv
theorem QY.pop (h:QY C f F){k:Nat}(hk:k<=F.length){C':List α}(hl:C'.length=C.length)(hC: ∀p,p < f\/f+k<=p->C'[p]?=C[p]?) :QY C' ((f+k)%C.length) (F.drop k):=by
 obtain ⟨h1,h2,h3⟩:=h;refine ⟨by rw [hl,List.length_drop]; omega,by rw [hl]; exact JK _ Zf,fun t v hv=>?_⟩;rw [Qi] at hv;have ht:k+t < F.length:=by
  rcases YI (k+t) F.length with h4 | h4
  ·exact h4
  ·rw [XV h4] at hv; cases hv
 have:=h3 _ v hv;rw [hl,Nat.mod_add_mod,Jn];have hwt:=ZdK (N:=C.length) (s:=f+(k+t)) Zf;generalize (f+(k+t))%C.length=p at*;rw [hC p Zf];exact this
theorem QY.get (h:QY C f F){t:Nat}{v:α}(hv:F[t]?=some v) :C[(f+t)%C.length]?=some v:=h.2.2 t v hv
end
end
section
open Go.RowKit
def Jw (R E k:Nat)(w:Zc)(b g size n f c:Nat)(C:List Zl) :Prop:=
 Zu w b R #[.int .i64 size,.slice (some ⟨g,0,none⟩) n n,.int .i64 f,.int .i64 c]/\Zu w g E C.toArray/\C.length=n*k/\f < n/\c<=n/\n<=size/\size<=1048576
def DZ (R:Nat)(w:Zc)(b size:Nat) :Prop:=Zu w b R #[.int .i64 size,.slice none 0 0,.int .i64 0,.int .i64 0]/\1<=size/\size<=1048576
def YG (R E k:Nat)(w:Zc)(b:Nat)(g:Option Nat)(size c:Nat)(F:List Zl) :Prop:=
 F.length=c*k/\(∀v ∈ F,v.oneCell'=true)/\
 ((g=none/\c=0/\DZ R w b size)\/ ∃g' n f C,g=some g'/\Jw R E k w b g' size n f c C/\QY C (f*k) F)
def Je (b:Nat)(g:Option Nat)(i:Nat) :Prop:=i=b\/some i=g
def Gv (w:Zc)(g g':Option Nat) :Prop:= ∀i,g'=some i->g=some i\/w.heap.size<=i
section
variable {R E k b g size n f c:Nat} {C F:List Zl} {w w':Zc} {S:Nat->Prop} {go:Option Nat}
theorem Jw.kept (h:Jw R E k w b g size n f c C)(hk:ZA S w w')(hb: ¬S b)(hg: ¬S g) :Jw R E k w' b g size n f c C:=
 ⟨h.1.kept hk hb,h.2.1.kept hk hg,h.2.2⟩
theorem DZ.kept (h:DZ R w b size)(hk:ZA S w w')(hb: ¬S b) :DZ R w' b size:=⟨h.1.kept hk hb,h.2⟩
theorem YG.kept (h:YG R E k w b go size c F)(hk:ZA S w w')(hS: ∀i,Je b go i-> ¬S i) :YG R E k w' b go size c F:=by
 obtain ⟨h1,h2,h3⟩:=h;refine ⟨h1,h2,?_⟩
 rcases h3 with ⟨rfl,hc,hn⟩ | ⟨g',n,f,C,rfl,hi,hw⟩
 ·exact .inl ⟨rfl,hc,hn.kept hk (hS _ (.inl rfl))⟩
 ·exact .inr ⟨g',n,f,C,rfl,hi.kept hk (hS _ (.inl rfl)) (hS _ (.inr rfl)),hw⟩
theorem YG.drewN (h:YG R E k w b go size c F)(m:Nat) :YG R E k (w.drewN m) b go size c F:=h
theorem YG.size_le (h:YG R E k w b go size c F) :c<=size/\1<=size/\size<=1048576:=by
 obtain ⟨_,_,⟨_,rfl,_,h1,h2⟩ | ⟨g',n,f,C,rfl,⟨_,_,_,h1,h2,h3,h4⟩,_⟩⟩:=h
 ·exact ⟨by omega,h1,h2⟩
 ·exact ⟨by omega,by omega,h4⟩
theorem YG.lt (h:YG R E k w b go size c F) : ∀i,Je b go i->i < w.heap.size:=by
 obtain ⟨_,_,⟨rfl,_,h1,_⟩ | ⟨g',n,f,C,rfl,⟨h1,h2,_⟩,_⟩⟩:=h
 ·rintro i (rfl | h)
  ·exact h1.lt
  ·cases h
 ·rintro i (rfl | h)
  ·exact h1.lt
  ·injection h with h;subst h;exact h2.lt
theorem Jw.at_ (h:Jw R E k w b g size n f c C)(hw:QY C (f*k) F)(hF:F.length=c*k)(h1: ∀v ∈ F,v.oneCell'=true) :YG R E k w b (some g) size c F:=⟨hF,h1,.inr ⟨g,n,f,C,rfl,h,hw⟩⟩
theorem Jw.cells (h:Jw R E k w b g size n f c C) :w.cell? ⟨b,0,none⟩=some (.int .i64 size)/\w.cell? ⟨b,1,none⟩=some (.slice (some ⟨g,0,none⟩) n n)/\w.cell? ⟨b,2,none⟩=some (.int .i64 f)/\w.cell? ⟨b,3,none⟩=some (.int .i64 c)/\
  w.frozen? ⟨b,1,none⟩=false/\w.frozen? ⟨b,2,none⟩=false/\w.frozen? ⟨b,3,none⟩=false:=
 ⟨h.1.cell 0,h.1.cell 1,h.1.cell 2,h.1.cell 3,h.1.frozen 1,h.1.frozen 2,h.1.frozen 3⟩
theorem DZ.cells (h:DZ R w b size) :w.cell? ⟨b,0,none⟩=some (.int .i64 size)/\w.cell? ⟨b,1,none⟩=some (.slice none 0 0)/\w.cell? ⟨b,2,none⟩=some (.int .i64 0)/\w.cell? ⟨b,3,none⟩=some (.int .i64 0)/\
  w.frozen? ⟨b,1,none⟩=false/\w.frozen? ⟨b,2,none⟩=false/\w.frozen? ⟨b,3,none⟩=false:=
 ⟨h.1.cell 0,h.1.cell 1,h.1.cell 2,h.1.cell 3,h.1.frozen 1,h.1.frozen 2,h.1.frozen 3⟩
theorem YG.cells (h:YG R E k w b go size c F) :w.cell? ⟨b,0,none⟩=some (.int .i64 size)/\w.cell? ⟨b,3,none⟩=some (.int .i64 c):=by
 obtain ⟨_,_,⟨rfl,rfl,h1⟩ | ⟨g',n,f,C,rfl,h1,_⟩⟩:=h
 ·exact ⟨h1.cells.1,h1.cells.2.2.2.1⟩
 ·exact ⟨h1.cells.1,h1.cells.2.2.2.1⟩
theorem AZ (w:Zc)(R E k size:Nat)(h1:1<=size)(h2:size<=1048576) :YG R E k (w.alloc (.cells #[.int .i64 size,.slice none 0 0,.int .i64 0,.int .i64 0] R)) w.heap.size none size 0 []:=
 ⟨by simp,by simp,.inl ⟨rfl,rfl,Zu.new _ _ _,h1,h2⟩⟩
theorem Nz {f u:Nat}(hB:Zu w g E C.toArray)(hw:QY C f F)(hu:f+u<=C.length)(j:Nat)(v:Zl)(hv:(F.take u)[j]?=some v) :w.cell? ((⟨g,f,none⟩ :Addr).add j)=some v:=by
 rw [add_plain,hB.cell];simpa using hw.read1 hu j v hv
theorem A4 {f:Nat}(hB:Zu w g E C.toArray)(hw:QY C f F)(j:Nat)(v:Zl)(hv:(F.drop (C.length - f))[j]?=some v) :w.cell? ((⟨g,0,none⟩ :Addr).add j)=some v:=by
 rw [add_plain,hB.cell,ZW];simpa using hw.read2 j v hv
theorem mu {D F:List Zl}{u:Nat}(hF:F.length<=D.length)(hu:u<=F.length) :Vw (Vw D 0 (F.take u)) u (F.drop u)=F++D.drop F.length:=by
 have l1:(F.take u).length=u:=Xo;have l2:(F.drop u).length=F.length - u:=ZE;have e1:(Vw D 0 (F.take u)).length=D.length:=JI _ _ _ Zf;apply Ve;intro p;rw [Dk _ _ _ Zf,Dk _ _ _ Zf,l1,l2]
 by_cases h1:p < u
 ·rw [if_pos h1,if_neg Zf,if_pos Zf,Yw Zf,Jm Zf,Nat.sub_zero]
 ·rw [if_neg h1]
  by_cases h2:p < F.length
  ·rw [if_pos Zf,Yw h2,Qi,show u+(p - u)=p by omega]
  ·rw [if_neg Zf,if_neg Zf,if_neg Zf,YY Zf,Qi,show F.length+(p - F.length)=p by omega]
theorem RN {z:Array Zl}(h: ∀v ∈ z.toList,v.oneCell'=true)(hz:0 < z.size)(n:Nat) : ∀v ∈ (madeCells z n).toList,v.oneCell'=true:=by
 intro v hv;simp only [madeCells,Array.toList_map,Yc,GZ,XT] at hv;obtain ⟨i,hi,rfl⟩:=hv;have XJ:i%z.size < z.size:=JK _ hz;rw [getElem!_pos z _ XJ];exact h _ (Array.getElem_mem_toList XJ)
end
theorem Rm (a:Addr)(n:Nat) :(a.add n).block=a.block:=by unfold Addr.add; split <;> rfl
theorem Wp (a:Addr)(i j:Nat) :(a.add i).add j=a.add (i+j):=by
 unfold Addr.add
 by_cases hi:i=0 <;> by_cases hj:j=0 <;> simp [hi,hj,Jn]
def Src (w:Zc)(S:Nat->Prop)(a:Option Addr)(len k:Nat)(cs:List Zl) :Prop:=
 cs.length=len*k/\(∀v ∈ cs,v.oneCell'=true)/\(0 < len-> ∃ad:Addr,a=some ad/\ ¬S ad.block/\ ∀j v,cs[j]?=some v->w.cell? (ad.add j)=some v)
theorem Src.kept {w w':Zc}{S T:Nat->Prop}{a:Option Addr}{len k:Nat}{cs:List Zl}(h:Src w S a len k cs)(hk:ZA T w w')(hT: ∀i,i < w.heap.size->T i->S i) :Src w' S a len k cs:=by
 obtain ⟨h1,h2,h3⟩:=h;refine ⟨h1,h2,fun hl=>?_⟩;obtain ⟨ad,e,hn,hc⟩:=h3 hl;refine ⟨ad,e,hn,fun j v hv=>hk.cell (fun ht=>?_) (hc j v hv)⟩;have hl:=GW (hc j v hv);rw [Rm] at ht hl;exact hn (hT _ hl ht)
theorem NC {L:List Zl}{u j:Nat}{v:Zl}(h:(L.take u)[j]?=some v) :L[j]?=some v:=by
 rcases YI j u with h1 | h1
 ·rwa [Jm h1] at h
 ·rw [XV Xo] at h; cases h
theorem lO {C F cs:List Zl}{f c n m s u k:Nat}(hw:QY C (f*k) F)(hF:F.length=c*k)(hC:C.length=n*k)(Hk:cs.length=m*k)(hcm:c+m<=n)(hs:s=(f+c)%n)(hu:u=min m (n - s)) :
  QY (Vw (Vw C (s*k) (cs.take (u*k))) 0 (cs.drop (u*k))) (f*k) (F++cs):=by
 refine hw.push ?_ ?_ ?_
 ·rw [hF,Hk,hC,<-Bp]; exact Qe k hcm
 ·rw [hF,hC,<-Bp,Nat.mul_mod_mul_right,hs]
 ·rw [Hk,hC,hu,<-Nat.sub_mul]
  rcases Nat.le_total m (n - s) with h | h
  ·rw [GU h,GU (Qe k h)]
  ·rw [Nat.min_eq_right h,Nat.min_eq_right (Qe k h)]
theorem ak {C F C':List Zl}{f n k:Nat}(hw:QY C (f*k) F)(hk:k<=F.length)(hC:C.length=n*k)(hl:C'.length=C.length)(h: ∀p,p < f*k\/f*k+k<=p->C'[p]?=C[p]?) :QY C' ((f+1)%n*k) (F.drop k):=by
 have:=hw.pop hk hl h;rwa [hC,show f*k+k=(f+1)*k by rw [Bp,Nat.one_mul],Nat.mul_mod_mul_right] at this
theorem Jc {P:YV}(t e:ZL)(i:KG)(z:Zl)(ht:P.underlying t=some (.slice e))(hi:P.info? e=some i)(hz:i.zero=some z)
  (kl kc:IntKind) (n c:Nat) (hnc:n<=c) (DN:i.bytes*c<=281474976710656) (nN:c<=9223372036854775807) (w:Zc) :
  (Instr.makeSlice t (.int kl (n:Int)) (.int kc (c:Int))).run P w= .ok (.slice (some ⟨w.heap.size,0,none⟩) n c) (w.alloc (.cells (madeCells z.cells (c*i.size)) e)):=by
 have hb:(i.bytes:Int)*(c:Int)<=281474976710656:=by
  have h:((i.bytes*c:Nat) :Int)<=281474976710656:=Zf;rwa [Int.natCast_mul] at h
 have hr:=run_make (P:=P) w t e i z ht hi hz kl kc n c Zf Zf hb Zf;simp only [Int.toNat_natCast] at hr;exact hr
end
section
open Go Go.RowKit
section
variable {P:YV} (w:Zc)
theorem Ow (base:Nat)(t ty e:ZL)(i:KG)(size:Nat)(ht:P.underlying t=some (.slice e))(hi:P.info? e=some i)
  (v:Zl) (n:Nat) (xs:List Zl) (Oj:w.ownsRow base e size v n xs) (c:Nat) :(GQ #[t,t] ty #[v,.slice none 0 c]).run P w= .ok v w:=by
 rcases Oj.2 with ⟨rfl,rfl⟩ | ⟨g,cap,cur,rfl,_,_,hnc,_⟩
 ·simp [GQ,Xf ht,sizeOf,VR,hi,Builtin.lenOf,V5]
 ·simp [GQ,Xf ht,sizeOf,VR,hi,Builtin.lenOf,V5,hnc,storeCells]
theorem Cb (base:Nat)(t ty e:ZL)(i:KG)(z:Zl)(size bytes:Nat)(ht:P.underlying t=some (.slice e))(hi:P.info? e=some i)(hz:i.zero=some z)
  (Mz:i.size=size) (Ns:i.bytes=bytes) (wm:z.cells.size=size) (BK:0 < size)
  (v:Zl) (n:Nat) (xs:List Zl) (Oj:w.ownsRow base e size v n xs)
  (A:Option Addr) (m c:Nat) (news:List Zl) (hl:news.length=m*size) (hr:0 < m-> ∃ad,A=some ad/\ ∀j u,news[j]?=some u->w.cell? (ad.add j)=some u) (h1: ∀u ∈ news,u.oneCell'=true)
  (nN:n+m<=maxLen) (DN:(n+m)*bytes<=140737488355328) (WY:base<=w.heap.size) :
  ∃v' w',(GQ #[t,t] ty #[v,.slice A m c]).run P w= .ok v' w'/\w'.ownsRow base e size v' (n+m) (xs++news)/\w.grownBy w' v.ownBlock/\
   (v'.ownBlock=v.ownBlock\/v'.ownBlock=some w.heap.size):=by
 rcases A with _ | ad
 ·have hm:m=0:=by
   rcases Qz m with h0 | h0
   ·exact h0
   ·obtain ⟨ad,h,_⟩:=hr h0
    cases h
  subst hm;have hn:news=[]:=ZO dM;subst hn;exact ⟨v,w,Ow w base t ty e i size ht hi v n xs Oj c,by simpa using Oj,World.grownBy.refl w _,.inl rfl⟩
 ·have hcells: ∀j u,news[j]?=some u->w.cell? (ad.add j)=some u:=by
   intro j u hu
   rcases Qz m with h0 | h0
   ·subst h0;have hn:news=[]:=ZO dM;subst hn;simp at hu
   ·obtain ⟨ad',h,hc⟩:=hr h0;injection h with h;subst h;exact hc j u hu
  obtain ⟨v',w',BJ,h2,h3,_,h5⟩:=run_append_own_at (P:=P) w base t ty e i z size bytes ht hi hz Mz Ns wm BK v n xs Oj ad m c news hl hcells h1 nN DN WY;exact ⟨v',w',BJ,h2,h3,h5⟩
theorem GP {o:Oper}{a:Act}{K:Act->Zc->Prop}{Q:Exit->Act->Zc->Prop}(s x:YW)(t:ZL)
  (ho:o.op= .call { callee:= .builtin .append,args:= #[s,x],argTypes:= #[t,t]})
  (base:Nat) (e:ZL) (i:KG) (z:Zl) (size bytes:Nat) (ht:P.underlying t=some (.slice e)) (hi:P.info? e=some i) (hz:i.zero=some z)
  (Mz:i.size=size) (Ns:i.bytes=bytes) (wm:z.cells.size=size) (BK:0 < size)
  (v:Zl) (n:Nat) (xs:List Zl) (hs:a.eval s=v) (Oj:w.ownsRow base e size v n xs)
  (A:Option Addr) (m c:Nat) (news:List Zl) (hx:a.eval x= .slice A m c) (hl:news.length=m*size) (hr:0 < m-> ∃ad,A=some ad/\ ∀j u,news[j]?=some u->w.cell? (ad.add j)=some u) (h1: ∀u ∈ news,u.oneCell'=true)
  (nN:n+m<=maxLen) (DN:(n+m)*bytes<=140737488355328) (WY:base<=w.heap.size)
  (h: ∀v' w',w'.ownsRow base e size v' (n+m) (xs++news)->w.grownBy w' v.ownBlock->(v'.ownBlock=v.ownBlock\/v'.ownBlock=some w.heap.size)->K (a.put o.dst v') w') :o.wp P a w K Q:=by
 obtain ⟨v',w',BJ,h2,h3,h4⟩:=Cb (P:=P) w base t o.type e i z size bytes ht hi hz Mz Ns wm BK v n xs Oj A m c news hl hr h1 nN DN WY;unfold Jj XU;simp only [ho,resolve,invoke,builtin,Yq,YX,ZY,List.map_toArray,List.map_cons,List.map_nil,hs,hx,BJ];exact h v' w' h2 h3 h4
theorem YR {ops:Array Oper}{rest:List Oper}{o:Oper}{a:Act}{Q:Exit->Act->Zc->Prop}(DD:o.guard=none)(s x:YW)(t:ZL)
  (ho:o.op= .call { callee:= .builtin .append,args:= #[s,x],argTypes:= #[t,t]})
  (base:Nat) (e:ZL) (i:KG) (z:Zl) (size bytes:Nat) (ht:P.underlying t=some (.slice e)) (hi:P.info? e=some i) (hz:i.zero=some z)
  (Mz:i.size=size) (Ns:i.bytes=bytes) (wm:z.cells.size=size) (BK:0 < size)
  (v:Zl) (n:Nat) (xs:List Zl) (hs:a.eval s=v) (Oj:w.ownsRow base e size v n xs)
  (A:Option Addr) (m c:Nat) (news:List Zl) (hx:a.eval x= .slice A m c) (hl:news.length=m*size) (hr:0 < m-> ∃ad,A=some ad/\ ∀j u,news[j]?=some u->w.cell? (ad.add j)=some u) (h1: ∀u ∈ news,u.oneCell'=true)
  (nN:n+m<=maxLen) (DN:(n+m)*bytes<=140737488355328) (WY:base<=w.heap.size)
  (h: ∀v' w',w'.ownsRow base e size v' (n+m) (xs++news)->w.grownBy w' v.ownBlock->(v'.ownBlock=v.ownBlock\/v'.ownBlock=some w.heap.size)->Y2 P ops Q rest (a.put o.dst v') w') :Y2 P ops Q (o::rest) a w:=
 Ju DD fun _ hK=>GP w s x t ho base e i z size bytes ht hi hz Mz Ns wm BK v n xs hs Oj A m c news hx hl hr h1 nN DN WY fun v' w' h2 h3 h4=>hK _ _ (h v' w' h2 h3 h4)
end
theorem Oo {w:Zc}{base p:Nat}{e:ZL}{size:Nat}(h:Zu w p e #[])(hb:base<=p) :w.ownsRow base e size (.slice (some ⟨p,0,none⟩) 0 0) 0 []:=
 ⟨by simp,.inr ⟨p,0,#[],rfl,hb,h,by omega,by unfold maxLen; omega,by simp,by simp⟩⟩
end
section
open Go Go.RowKit Go.Maps
open Go.ChangeMaps (setBlock heap_setBlock_same heap_setBlock_other)
def QQ (w:Zc)(m:Nat)(c:Int->Int) :Prop:=
 ∃es clock,w.heap[m]?=some (.map es clock)/\(∀e ∈ es.toList,∃q:Int,(YN .i64 q).wf=true/\e.key= .int .i64 q/\e.val= .int .i64 (c q))/\(es.toList.map (·.key)).Nodup/\ ∀q,c q≠0-> ∃e ∈ es.toList,e.key= .int .i64 q
def PU (c:Int->Int)(q v:Int) :Int->Int:=fun x=>if x=q then v else c x
section
variable {P:YV} {w w':Zc} {m B:Nat} {c:Int->Int} {t k e:ZL}
theorem QQ.lt (h:QQ w m c) :m < w.heap.size:=by
 obtain ⟨es,clock,hb,_⟩:=h;exact (Array.getElem?_eq_some_iff.1 hb).1
theorem QQ.same (h:QQ w m c)(hb:w'.heap[m]?=w.heap[m]?) :QQ w' m c:=by
 obtain ⟨es,clock,h1,h2⟩:=h;exact ⟨es,clock,hb.trans h1,h2⟩
theorem QQ.drewN (h:QQ w m c)(n:Nat) :QQ (w.drewN n) m c:=h
theorem QQ.alloc (h:QQ w m c)(o:Obj) :QQ (w.alloc o) m c:=h.same (Ga w o m h.lt)
theorem QQ.grown {row:Option Nat}(h:QQ w m c)(hg:w.grownBy w' row)(Kj:some m≠row) :QQ w' m c:=h.same (hg.block m h.lt Kj)
theorem QQ.setCell (h:QQ w m c){p:Addr}(hp:m≠p.block)(u:Zl) :QQ (w.setCell p u) m c:=h.same (Xr w p u m hp)
theorem QQ.congr {c':Int->Int}(h:QQ w m c)(hc: ∀q,c q=c' q) :QQ w m c':=by
 obtain rfl:c=c':=funext hc;exact h
theorem WJ (w:Zc) :QQ (w.alloc (.map #[] 0)) w.heap.size (fun _=>0):=⟨#[],0,(MapKept.heap_alloc w _).1,by simp,by simp,fun q h=>absurd rfl h⟩
theorem QQ.keys {es:Array MapEntry}(hk:P.underlying k=some (.int .i64))(h: ∀e ∈ es.toList,∃q:Int,(YN .i64 q).wf=true/\e.key= .int .i64 q/\e.val= .int .i64 (c q)) : ∀x ∈ es.toList,∃l,keyOf P k x.key=some l:=fun x hx=>by
 obtain ⟨q,hq,h1,_⟩:=h x hx;exact ⟨_,by rw [h1]; exact keyOf_int_mk hk hq⟩
theorem QQ.lookup (h:QQ w m c)(hk:P.underlying k=some (.int .i64))(ht:P.underlying t=some (.map k e))(hz:(Ke e).run P w= .ok (.int .i64 0) w){q:Int}(hq:(YN .i64 q).wf=true) :
  (J5 t (.map (some m)) (.int .i64 q) false).run P w= .ok (.int .i64 (c q)) w:=by
 obtain ⟨es,clock,hb,h1,h2,h3⟩:=h;have K:=int_keyed hk;have FZ:=keyOf_int_mk hk hq
 rcases K.find w FZ es.toList (QQ.keys hk h1) with ⟨f1,f2⟩ | ⟨j,e0,f1,f2,f3⟩
 ·have hc:c q=0:=by
   rcases Decidable.em (c q=0) with h0 | h0
   ·exact h0
   ·obtain ⟨x,hx,rm⟩:=h3 q h0;exact absurd rm (f2 x hx)
  rw [hc];simp [J5,Xf ht,Qy hb,K.check w _ FZ,f1,hz,Xd]
 ·obtain ⟨q',_,e1,e2⟩:=h1 e0 (Zz f2);rw [f3] at e1;injection e1 with _ e1;subst e1;simp [J5,Xf ht,Qy hb,K.check w _ FZ,f1,e2,Xd]
theorem QQ.update (h:QQ w m c)(hk:P.underlying k=some (.int .i64))(ht:P.underlying t=some (.map k e)){q v:Int}(hq:(YN .i64 q).wf=true) :
  ∃w',(GS t (.map (some m)) (.int .i64 q) (.int .i64 v)).run P w= .ok () w'/\QQ w' m (PU c q v)/\w.grownBy w' (some m):=by
 obtain ⟨es,clock,hb,h1,h2,h3⟩:=h;have K:=int_keyed hk;have FZ:=keyOf_int_mk hk hq;have hg: ∀es' WH,w.grownBy (setBlock w m (.map es' WH)) (some m):=fun es' WH=>⟨rfl,rfl,rfl,by simp [setBlock],fun i _ hi=>heap_setBlock_other hb _ (fun e=>hi FK)⟩
 rcases K.find w FZ es.toList (QQ.keys hk h1) with ⟨f1,f2⟩ | ⟨j,e0,f1,f2,f3⟩
 ·refine ⟨setBlock w m (.map (es.push ⟨.int .i64 q,.int .i64 v,clock⟩) (clock+1)),?_,⟨_,_,heap_setBlock_same hb _,fun x hx=>?_,?_,fun q' jw=>?_⟩,hg _ _⟩
  ·simp [GS,Xf ht,Qy hb,K.check w false FZ,f1,V6 _ hb,Xd,setBlock]
  ·simp only [Uw,List.mem_append,Ym] at hx
   rcases hx with hx | rfl
   ·obtain ⟨q',w1,e1,e2⟩:=h1 x hx;have Kj:q'≠q:=by rintro rfl; exact f2 x hx e1
    exact ⟨q',w1,e1,by simp [PU,Kj,e2]⟩
   ·exact ⟨q,hq,rfl,by simp [PU]⟩
  ·rw [Uw,List.map_append,List.map_singleton];refine List.nodup_append.2 ⟨h2,by simp,fun a ha b hb'=>?_⟩;obtain ⟨x,hx,rfl⟩:=Yc.1 ha;obtain rfl:=Ym.1 hb';exact f2 x hx
  ·by_cases hqq:q'=q
   ·subst hqq;exact ⟨_,by rw [Uw]; exact List.mem_append_right _ (Ym.2 rfl),rfl⟩
   ·obtain ⟨x,hx,rm⟩:=h3 q' (by simpa [PU,hqq] using jw);exact ⟨x,by rw [Uw]; exact List.mem_append_left _ hx,rm⟩
 ·have hj:es[j]?=some e0:=by simpa using f2
  have Fc:j < es.toList.length:=(Zk.1 f2).1;have Zev:(es.modify j (fun e'=> { e' with key:= .int .i64 q,val:= .int .i64 v})).toList=es.toList.set j { e0 with key:= .int .i64 q,val:= .int .i64 v}:=by rw [Array.toList_modify,Go.ChangeMaps.modify_eq_set _ _ _ _ f2]
  have Zeu:((es.modify j (fun e'=> { e' with key:= .int .i64 q,val:= .int .i64 v})).toList.map (·.key))=es.toList.map (·.key):=by
   rw [Zev,List.map_set];refine Ve fun i=>?_
   rw [List.getElem?_set]
   split
   ·rename_i hi
    subst hi;have hjs:j < es.size:=by simpa using Fc
    have hj2:es.toList[j]'Fc=e0:=by simpa [Zg Fc] using f2
    simp [hjs];simp at hj2;rw [hj2,f3]
   ·rfl
  refine ⟨setBlock w m (.map (es.modify j (fun e'=> { e' with key:= .int .i64 q,val:= .int .i64 v})) clock),?_,⟨_,_,heap_setBlock_same hb _,fun x hx=>?_,by rw [Zeu]; exact h2,fun q' jw=>?_⟩,hg _ _⟩
  ·simp [GS,Xf ht,Qy hb,K.check w false FZ,f1,hj,f3,K.stays w FZ,V6 _ hb,Xd,setBlock]
  ·rw [Zev] at hx;obtain ⟨i,hi,ex⟩:=List.getElem_of_mem hx;rw [List.getElem_set] at ex
   split at ex
   ·subst ex;exact ⟨q,hq,rfl,by simp [PU]⟩
   ·rename_i Kj
    have NV:i < es.toList.length:=by simpa using hi
    obtain ⟨q',w1,e1,e2⟩:=h1 x (ex▸List.getElem_mem NV);have hne':q'≠q:=by
     rintro rfl;have hn:=List.pairwise_iff_getElem.1 h2;have a1:(es.toList.map (·.key))[i]?=some (.int .i64 q'):=by rw [ZM,Zg NV,ex]; simp [e1]
     have a2:(es.toList.map (·.key))[j]?=some (.int .i64 q'):=by rw [ZM,f2]; simp [f3]
     obtain ⟨l1,e3⟩:=Zk.1 a1;obtain ⟨l2,e4⟩:=Zk.1 a2
     rcases Nat.lt_or_gt_of_ne Kj with XJ | XJ
     ·exact hn j i l2 l1 XJ (e4.trans e3.symm)
     ·exact hn i j l1 l2 XJ (e3.trans e4.symm)
    exact ⟨q',w1,e1,by simp [PU,hne',e2]⟩
  ·have fX:(.int .i64 q':Zl) ∈ es.toList.map (·.key):=by
    by_cases hqq:q'=q
    ·subst hqq;exact Yc.2 ⟨e0,Zz f2,f3⟩
    ·obtain ⟨x,hx,rm⟩:=h3 q' (by simpa [PU,hqq] using jw);exact Yc.2 ⟨x,hx,rm⟩
   rw [<-Zeu] at fX;obtain ⟨x,hx,rm⟩:=Yc.1 fX;exact ⟨x,hx,rm⟩
theorem QQ.delete (h:QQ w m c)(hk:P.underlying k=some (.int .i64))(ht:P.underlying t=some (.map k e)){q:Int}(hq:(YN .i64 q).wf=true)(h0:c q=0)(ty:ZL) :
  ∃w',(Builtin.delete_ #[t,k] ty #[.map (some m),.int .i64 q]).run P w= .ok (.tuple #[]) w'/\QQ w' m c/\w.grownBy w' (some m):=by
 obtain ⟨es,clock,hb,h1,h2,h3⟩:=h;have K:=int_keyed hk;have FZ:=keyOf_int_mk hk hq;have hg: ∀es' WH,w.grownBy (setBlock w m (.map es' WH)) (some m):=fun es' WH=>⟨rfl,rfl,rfl,by simp [setBlock],fun i _ hi=>heap_setBlock_other hb _ (fun e=>hi FK)⟩
 rcases K.find w FZ es.toList (QQ.keys hk h1) with ⟨f1,f2⟩ | ⟨j,e0,f1,f2,f3⟩
 ·refine ⟨setBlock w m (.map es clock),?_,⟨_,_,heap_setBlock_same hb _,h1,h2,h3⟩,hg _ _⟩;exact Zm5
 ·have Fc:j < es.toList.length:=(Zk.1 f2).1;have hjs:j < es.size:=by simpa using Fc
  have rl:(es.eraseIdxIfInBounds j).toList=es.toList.eraseIdx j:=by
   unfold Array.eraseIdxIfInBounds;rw [dif_pos hjs];simp
  refine ⟨setBlock w m (.map (es.eraseIdxIfInBounds j) clock),?_,⟨_,_,heap_setBlock_same hb _,fun x hx=>?_,?_,fun q' jw=>?_⟩,hg _ _⟩
  ·exact Zm5
  ·rw [rl] at hx;exact h1 x ((List.eraseIdx_sublist _ _).subset hx)
  ·rw [rl];exact h2.sublist ((List.eraseIdx_sublist _ _).map _)
  ·obtain ⟨x,hx,rm⟩:=h3 q' jw;refine ⟨x,?_,rm⟩;rw [rl];obtain ⟨i,hi⟩:=List.mem_iff_getElem?.1 hx;refine List.mem_eraseIdx_iff_getElem?.2 ⟨i,?_,hi⟩;rintro rfl;rw [f2] at hi;injection hi with hi;rw [<-hi,f3] at rm;injection rm with _ rm;subst rm;exact jw h0
end
section
variable {P:YV} {ops:Array Oper} {rest:List Oper} {o:Oper} {a:Act} {w:Zc} {Q:Exit->Act->Zc->Prop} {b:Nat} {c:Int->Int} {t k e:ZL}
theorem Lp (DD:o.guard=none)(m x v:YW)(ho:o.op= .mapUpdate t m x v)(h:QQ w b c)(hk:P.underlying k=some (.int .i64))(ht:P.underlying t=some (.map k e))(q n:Int)(hm:a.eval m= .map (some b))(hx:a.eval x= .int .i64 q)(hv:a.eval v= .int .i64 n)(hq:(YN .i64 q).wf=true)
  (hK: ∀w',QQ w' b (PU c q n)->w.grownBy w' (some b)->Y2 P ops Q rest (a.put o.dst undef) w') :Y2 P ops Q (o::rest) a w:=by
 refine Ju DD fun K' hK'=>?_
 obtain ⟨w',BJ,r1,r2⟩:=h.update hk ht hq (v:=n);unfold Jj;simp [XU,ho,hm,hx,hv,BJ,Xd];exact hK' _ _ (hK w' r1 r2)
theorem Cy (DD:o.guard=none)(m x:YW)(ho:o.op= .call { callee:= .builtin .delete,args:= #[m,x],argTypes:= #[t,k]})(h:QQ w b c)(hk:P.underlying k=some (.int .i64))(ht:P.underlying t=some (.map k e))(q:Int)(hm:a.eval m= .map (some b))(hx:a.eval x= .int .i64 q)(hq:(YN .i64 q).wf=true)(h0:c q=0)
  (hK: ∀w',QQ w' b c->w.grownBy w' (some b)->Y2 P ops Q rest (a.put o.dst (.tuple #[])) w') :Y2 P ops Q (o::rest) a w:=by
 refine Ju DD fun K' hK'=>?_
 obtain ⟨w',BJ,r1,r2⟩:=h.delete hk ht hq h0 o.type;unfold Jj;simp [XU,ho,resolve,invoke,builtin,hm,hx,BJ,Xd];exact hK' _ _ (hK w' r1 r2)
theorem ou {C:Zc->Prop}{Qa:Act->Prop}(m x:YW)(hw:X3 o (Ue ops a.tmps)=true)(ho:o.op= .lookup t m x false)(hC: ∀w,C w->QQ w b c)(hk:P.underlying k=some (.int .i64))(ht:P.underlying t=some (.map k e))(hz: ∀w,(Ke e).run P w= .ok (.int .i64 0) w)(q:Int)(hm:a.eval m= .map (some b))(hx:a.eval x= .int .i64 q)(hq:(YN .i64 q).wf=true)
  (h:Yl P ops C Qa rest (a.put o.dst (.int .i64 (c q)))) :Yl P ops C Qa (o::rest) a:=by
 unfold Yl;rw [if_pos hw];refine ⟨_,fun w hc=>?_,h⟩;have BJ:=(hC w hc).lookup hk ht (hz w) hq;unfold V8 XU;simp only [ho,hm,hx,Yq,BJ,ZY,YX];exact Gw
end
end
section
open Go Go.RowKit
abbrev Z3 (f:Gx)(args:Array Zl)(w:Zc)(v:Zl) :Prop:=Zv Zb f args w fun e w'=>e= .returned v/\Zp w.heap.size w w'
abbrev Y6 (f:Gx)(args:Array Zl)(w:Zc)(v:Zl) :Prop:=Zv Zb f args w fun e w'=>e= .returned v/\w=w'
abbrev Xc (f:Gx)(args:Array Zl)(w:Zc)(v:Zl) :Prop:=Zv Zb f args w fun e w'=>e= .returned v/\ ∃m,w'=w.drewN m
theorem Xx {w:Zc}{g:Nat}{t:ZL}{cs:Array Zl}(h:Zu w g t cs)(i:Nat){v:Zl}{r:List Zl}(e:cs.toList.drop i=v::r:=by exact rfl) :w.cell? ⟨g,i,none⟩=some v:=by
 have h2:=congrArg (fun l:List Zl=>l[0]?) e;simp only [Qi,Nat.add_zero,Array.getElem?_toList,List.getElem?_cons_zero] at h2;exact (h.cell i).trans h2
theorem ZR {α:Sort _}(a:α) : ∃x,a=x:=⟨_,rfl⟩
end
section
open Go.RowKit
def XR (z:List Int) :Nat->Int
 | 0=>0
 | k+1=>XR z k+z.getD k 0
def KS (z:List Int)(n:Nat) :Bool:=decide (XR z n<=18446744073709551615)
def BB (z:List Int)(n:Nat) :Int:=if XR z n<=18446744073709551615 then XR z n else 0
theorem Nj {z:List Int}{n:Nat}(h:XR z n<=18446744073709551615) :KS z n=true/\BB z n=XR z n:=⟨decide_eq_true h,if_pos h⟩
theorem OZ {z:List Int}{n:Nat}(h: ¬XR z n<=18446744073709551615) :KS z n=false/\BB z n=0:=⟨decide_eq_false h,if_neg h⟩
theorem BQ {z:List Int}(hz: ∀i,0<=z.getD i 0) : ∀n,0<=XR z n
 | 0=>Int.le_refl _
 | k+1=>by have:=BQ hz k; have:=hz k; simp only [XR]; omega
theorem Cl {z:List Int}(hz: ∀i,0<=z.getD i 0)(a:Nat) : ∀d,XR z a<=XR z (a+d)
 | 0=>Int.le_refl _
 | d+1=>by have:=Cl hz a d; have:=hz (a+d); rw [<-Jn]; simp only [XR]; omega
theorem pL (x y:Int)(h0:0<=x)(h1:x<=18446744073709551615)(h2:0<=y)(h3:y<=18446744073709551615)(w:Zc) :
  (callFunc 144 #[.int .u64 x,.int .u64 y,.int .u64 0]).run Zb w=
   .ok (.value (.tuple #[.int .u64 ((x+y)%18446744073709551616),.int .u64 ((x+y)/18446744073709551616)])) w:=by
 rw [run_callFunc_extern func144 ZC ZC ZC (e:=add64Entry) ZC,run_add64 x y 0 Zf Zf Zf Zf];simp only [Xd,Int.add_zero]
theorem AS (w:Zc) :Y6 116 #[] w (.int .u64 18446744073709551615):=by
 go_enter func116,ntmps116;exact UD
theorem tP (a:Option Addr)(cap:Nat)(w:Zc) :
  Y6 101 #[.slice a 0 cap] w (.tuple #[.int .u64 0,.bool true]):=by
 go_enter func101,ntmps101;go_wp2;go_loop [4,11] (fun s4 s11=>s4= .int .u64 0/\s11= .int .i64 0) (fun _ _=>0)
 case atStart=>exact Gw
 case round=>
  exact Zf2
theorem S8 (a:Option Addr)(cap:Nat)(w:Zc) :
  Y6 67 #[.slice a 0 cap] w (.tuple #[.int .u64 0,.bool true]):=by
 go_enter func67,ntmps67;go_wp2;go_loop [4,5] (fun s4 s5=>s4= .int .u64 0/\s5= .int .i64 0) (fun _ _=>0)
 case atStart=>exact Gw
 case round=>
  exact Zf2
theorem EV (b off len cap:Nat)(z:List Int)(w:Zc)(hlen:len<=9223372036854775807)
  (hc: ∀i,i < len->w.cell? ⟨b,off+i,none⟩=some (.int .u64 (z.getD i 0))) (hz: ∀i,0<=z.getD i 0/\z.getD i 0<=18446744073709551615) :
  Y6 101 #[.slice (some ⟨b,off,none⟩) len cap] w (.tuple #[.int .u64 (BB z len),.bool (KS z len)]):=by
 have hn:=BQ (fun i=>(hz i).1);have HC:=Za hc;have HZ:=Za hz;have HN:=Za hn;clear hc hz hn;go_enter func101,ntmps101;go_wp2;go_loop [4,11] (fun s4 s11=> ∃(k:Nat) (t:Int),k<=len/\s11= .int .i64 k/\s4= .int .u64 t/\Zj (t=XR z k/\t<=18446744073709551615)) (fun _ s11=>len -(intOf s11).toNat)
 case atStart=>exact ⟨0,0,by omega,rfl,rfl,Za ⟨rfl,by omega⟩⟩
 case round=>
  obtain ⟨k,t,hk,rfl,rfl,HT⟩:=hrel;have t0:0<=t:=by rw [HT.o.1]; exact HN.o k
  have t1:=HT.o.2
  by_cases XJ:k < len
  ·have KT:=HC.o k XJ;obtain ⟨y0,y1⟩:=HZ.o k;have hs:XR z (k+1)=t+z.getD k 0:=by rw [HT.o.1]; rfl
   generalize z.getD k 0=y at*;have HS:=Za hs;have hl:=fun w=>pL t y t0 t1 y0 y1 w
   by_cases MB:t+y<=18446744073709551615
   ·have e1:(t+y)%18446744073709551616=t+y:=Zf;have e2:(t+y)/18446744073709551616=0:=Zf;rw [e1,e2] at hl;clear e1 e2 hs;go_wp2;go_round
    case rel=>exact ⟨k+1,t+y,by omega,by go_num,rfl,Za ⟨HS.o.symm,MB⟩⟩
    case measure=>exact KX
   ·have e2:(t+y)/18446744073709551616=1:=Zf;have vx: ¬XR z len<=18446744073709551615:=Zm9
    have HB:=Za (OZ vx);rw [e2] at hl;clear e2 hs vx;go_wp2;go_ret2;exact ⟨by rw [HB.o.1,HB.o.2]; rfl,rfl⟩
  ·obtain rfl:k=len:=Zf;have HB:=Za (Nj (z:=z) (n:=k) (by rw [<-HT.o.1]; exact t1));have HE:=Za HT.o.1;clear XJ;have XJ: ¬k < k:=Zf;go_wp2;go_ret2;exact ⟨by rw [HB.o.1,HB.o.2,<-HE.o]; rfl,rfl⟩
theorem SW {P:YV}{f:Gx}{args:Array Zl}{w:Zc}{a n:Nat}{v:Zl}
  (h:Zv P f args (w.drewN (a+n)) fun e w'=>e= .returned v/\w.drewN (a+n)=w') :
  Zv P f args (w.drewN (a+n)) fun e w''=>e= .returned v/\ ∃m,w''=w.drewN (a+m):=
 h.mono fun _ _ ⟨he,hm⟩=>⟨he,n,hm.symm⟩
theorem AR (b off len cap:Nat)(z:List Int)(w:Zc)(hlen:len<=9223372036854775807)
  (hc: ∀i,i < len->w.cell? ⟨b,off+i,none⟩=some (.int .u64 (z.getD i 0))) (hz: ∀i,0<=z.getD i 0/\z.getD i 0<=18446744073709551615) :
  Xc 67 #[.slice (some ⟨b,off,none⟩) len cap] w (.tuple #[.int .u64 (BB z len),.bool (KS z len)]):=by
 have hn:=BQ (fun i=>(hz i).1);have HC:=Za hc;have HZ:=Za hz;have HN:=Za hn;clear hc hz hn;go_enter func67,ntmps67;go_wp2;go_loopw [4,5] (fun s4 s5 wr=> ∃(k m:Nat) (t:Int),k<=len/\s5= .int .i64 k/\s4= .int .u64 t/\wr=w.drewN m/\Zj (t=XR z k/\t<=18446744073709551615)) (fun _ s5 _=>len -(intOf s5).toNat)
 case atStart=>exact ⟨0,0,0,by omega,rfl,rfl,rfl,Za ⟨rfl,by omega⟩⟩
 case round=>
  obtain ⟨k,m,t,hk,rfl,rfl,rfl,HT⟩:=hrel;have t0:0<=t:=by rw [HT.o.1]; exact HN.o k
  have t1:=HT.o.2
  by_cases XJ:k < len
  ·have KT:=HC.o k XJ;obtain ⟨y0,y1⟩:=HZ.o k;have hs:XR z (k+1)=t+z.getD k 0:=by rw [HT.o.1]; rfl
   generalize z.getD k 0=y at*;have HS:=Za hs;clear hs
   by_cases MB:t+y<=18446744073709551615
   ·go_wp2;go_quiet ((go_at_call 116; exact SW (AS _)));go_wp2;go_roundw
    case rel=>exact ⟨k+1,_,t+y,by omega,by go_num,rfl,rfl,Za ⟨HS.o.symm,MB⟩⟩
    case measure=>exact KX
   ·have vx: ¬XR z len<=18446744073709551615:=Zm9
    have HB:=Za (OZ vx);clear vx;go_wp2;go_quiet ((go_at_call 116; exact SW (AS _)));go_wp2;go_ret2;exact ⟨by rw [HB.o.1,HB.o.2]; rfl,m+nq,World.drewN_drewN _ _ _⟩
  ·obtain rfl:k=len:=Zf;have HB:=Za (Nj (z:=z) (n:=k) (by rw [<-HT.o.1]; exact t1));have HE:=Za HT.o.1;clear XJ;have XJ: ¬k < k:=Zf;go_wp2;go_ret2;exact ⟨by rw [HB.o.1,HB.o.2,<-HE.o]; rfl,_,rfl⟩
end
section
open Go.RowKit
section
variable {P:YV} (w:Zc)
theorem Gn {t:ZL}{k:IntKind}(h:P.underlying t=some (.int k)) :P.plainKey t=true:=by simp [Program.plainKey,h]
end
end
section
open Go.RowKit
def ET (w:Zc)(b:Nat)(n L:Int) :Prop:=Zu w b 184 #[.int .i64 n,.int .i64 L]
theorem Mn {w:Zc}{b:Nat}{n L:Int}(h:ET w b n L) :
  w.cell? ⟨b,0,none⟩=some (.int .i64 n)/\w.cell? ⟨b,1,none⟩=some (.int .i64 L)/\w.frozen? ⟨b,0,none⟩=false:=
 ⟨Zu.cell h 0,Zu.cell h 1,Zu.frozen h 0⟩
theorem Mp (b:Nat)(n:Int)(w:Zc)(h:w.cell? ⟨b,0,none⟩=some (.int .i64 n)) :
  Y6 140 #[.pointer (some ⟨b,0,none⟩)] w (.int .i64 n):=by
 go_enter func140,ntmps140;exact UD
theorem eu (b:Nat)(n:Int)(w:Zc)(h0:0<=n)(h1:n<=9223372036854775806)(h:w.cell? ⟨b,0,none⟩=some (.int .i64 n))(hf:w.frozen? ⟨b,0,none⟩=false) :
  Zv Zb 232 #[.pointer (some ⟨b,0,none⟩)] w fun e w'=>e= .returned (.tuple #[])/\(w.setCell ⟨b,0,none⟩ (.int .i64 (n+1)))=w':=by
 go_enter func232,ntmps232;go_wp2;go_end0;exact Gw
def Pj (n L:Int) :Int:=if n < 0\/L < 1 then 0 else n/L
theorem Sz {n L:Int}(h0:0<=n)(h1:1<=L) :Pj n L=n/L:=if_neg Zf
theorem fx (n L:Int)(w:Zc)(hn:n<=9223372036854775807) :
  Y6 141 #[.int .i64 n,.int .i64 L] w (.int .i64 (Pj n L)):=by
 by_cases h0:n < 0
 ·have hd:decide (n < 0)=true:=by simpa using h0
  have H:=Za (show Pj n L=0 from if_pos (.inl h0));exact yW
 ·have hd:decide (n < 0)=false:=by simpa using h0
  by_cases h1:L < 1
  ·have hd1:decide (L < 1)=true:=QT;have H:=Za (show Pj n L=0 from if_pos (.inr h1));exact yW
  ·have hd1:decide (L < 1)=false:=QT;have hz:(L==0)=false:=Xo;have H:=Za (Sz (n:=n) (L:=L) Zf Zf);have q0:0<=n/L:=Int.ediv_nonneg Zf Zf;have q1:n/L<=n:=Int.ediv_le_self _ Zf;have h2:0<=n:=Zf;have h3:1<=L:=Zf;clear h0 h1;exact yW
theorem gF (n:Int)(w:Zc)(h0:0<=n)(h1:n<=1099511627776) :
  Y6 256 #[.int .i64 n] w (.bool true):=ze
theorem kY (n:Int)(w:Zc)(h:n < 0\/1099511627776 < n) :
  Y6 256 #[.int .i64 n] w (.bool false):=by
 rcases h with h | h
 ·have hd:decide (0<=n)=false:=KM;exact ze
 ·have hd:decide (0<=n)=true:=Xo;have hd:decide (n<=1099511627776)=false:=KM;exact ze
end
section
open Go.RowKit
def wJ (k:Nat) :IntKind:=if k < 2\/(10<=k/\k < 18) then .i64 else .u64
def Zi (c:Nat->Int) :Array Zl:= #[.int .i64 (c 0),.int .i64 (c 1),.int .u64 (c 2),.int .u64 (c 3),.int .u64 (c 4),.int .u64 (c 5),.int .u64 (c 6),.int .u64 (c 7),.int .u64 (c 8),.int .u64 (c 9),.int .i64 (c 10),.int .i64 (c 11),.int .i64 (c 12),.int .i64 (c 13),.int .i64 (c 14),.int .i64 (c 15),.int .i64 (c 16),.int .i64 (c 17),.int .u64 (c 18),.int .u64 (c 19)]
def Wi (c:Nat->Int) :Prop:= ∀k,k < 20->(YN (wJ k) (c k)).wf=true
def cr:Int:=1152921504606846976
def NS (v lo hi:Int) :Bool:=decide (lo<=v/\v<=hi)
def Yx (c:Nat->Int) :Nat->Bool
 | 0=>NS (c 0) 1 4096
 | 1=>NS (c 1) 1 4096
 | 2=>decide (1<=c 2)
 | 3=>decide (c 2<=c 3)
 | 4=>NS (c 4) (c 3) cr
 | 5=>NS (c 5) 1 (c 2)
 | 6=>NS (c 6) (c 3) (c 4)
 | 7=>NS (c 7) 1 cr
 | 8=>decide (1<=c 8)
 | 9=>decide (c 9<=cr)
 | 10=>NS (c 10) 1 1048576
 | 11=>decide (c 10 < c 11/\c 11<=1048576)
 | 12=>NS (c 12) 1 4096
 | 13=>NS (c 13) 1 4096
 | 14=>NS (c 14) 1 4096
 | 15=>NS (c 15) 1 4096
 | 16=>decide (0<=c 16/\c 16 < c 14/\c 16 < c 15)
 | 17=>NS (c 17) 0 4096
 | 18=>decide (c 18<=c 19)
 | 19=>NS (c 19) 1 4294967296
 | _=>true
def Df (c:Nat->Int) :Nat->Nat->Int
 | 0,_=>0
 | n+1,k=>if Yx c k=true then Df c n (k+1) else(k:Int)+1
def TM (c:Nat->Int) :Int:=Df c 20 0
def Em (c:Nat->Int)(k:Nat) :Prop:= ∀j,j < k->Yx c j=true
theorem Ev (c:Nat->Int) : ∀(k n s:Nat),(∀j,s<=j->j < s+k->Yx c j=true)->Df c (n+k) s=Df c n (s+k)
 | 0,n,s,_=>rfl
 | k+1,n,s,h=>by
  rw [show n+(k+1)=(n+k)+1 by omega,Df,if_pos (h s Zf Zf),Ev c k n (s+1) (fun j h1 h2=>h j Zf Zf)]
  congr 1; omega
theorem jQ {c:Nat->Int}{k:Nat}(hk:k < 20)(hb:Em c k)(hr:Yx c k=false) :TM c=(k:Int)+1:=by
 unfold TM;rw [show 20=(19 - k+1)+k by omega,Ev c k _ 0 (fun j _ h=>hb j Zf),Df,ZW,if_neg (by rw [hr]; simp)]
theorem eP {c:Nat->Int}(hb:Em c 20) :TM c=0:=by
 unfold TM;rw [show 20=0+20 by omega,Ev c 20 0 0 (fun j _ h=>hb j Zf),Df]
theorem Mj {c:Nat->Int}{k:Nat}(hb:Em c k)(hr:Yx c k=true) :Em c (k+1):=fun j hj=>by
 rcases YI j k with h | h
 ·exact hb j h
 ·rw [show j=k by omega]; exact hr
theorem Ml (c:Nat->Int) :Em c 0:=fun j h=>by omega
theorem Nn (c:Nat->Int) :(TM c=0/\Em c 20)\/ ∃k,k < 20/\Em c k/\Yx c k=false/\TM c=(k:Int)+1:=by
 have: ∀n,n<=20->Em c n\/ ∃k,k < n/\Em c k/\Yx c k=false:=by
  intro n
  induction n with
  | zero=>intro _; exact .inl (Ml c)
  | succ n ih=>
   intro hn
   rcases ih Zf with h | ⟨k,hk,h1,h2⟩
   ·cases hr:Yx c n with
    | true=>exact .inl (Mj h hr)
    | false=>exact .inr ⟨n,by omega,h,hr⟩
   ·exact .inr ⟨k,by omega,h1,h2⟩
 rcases this 20 (Zh _) with h | ⟨k,hk,h1,h2⟩
 ·exact .inl ⟨eP h,h⟩
 ·exact .inr ⟨k,hk,h1,h2,jQ hk h1 h2⟩
end
section
open Go Go.RowKit
theorem BU {P:YV}{id:Nat}{Q:Exit->Act->Zc->Prop}{a:Act}{w:Zc}{l:List Oper}(n:Nat)
  (h:Yl P l.toArray (fun w'=> ∃n,w'=w.drewN n) (fun a'=> ∀w',(∃n,w'=w.drewN n)->Y2 P l.toArray Q (l.drop n) a' w') (l.take n) a) (hm:P.follows .mixedOrders=true:=by kernel_rfl) (hB:Uk .any l.toArray n=true:=by kernel_rfl) :(VS id l.toArray true).wp P Q a w:=
 Nd n hm hB h
end
section
open Go.RowKit
theorem S9 (s:Nat)(w:Zc)(h:1<=s)(h2:s<=1048576) :
  Zv Zb 81 #[.int .i64 s] w fun e w'=>e= .returned (.pointer (some ⟨w.heap.size,0,none⟩))/\w.alloc (.cells #[.int .i64 s,.slice none 0 0,.int .i64 0,.int .i64 0] 148)=w':=by
 have h0: ¬(s:Int)< 1:=Zf;have h3: ¬(1048576:Int)< (s:Int):=Zf;go_enter func81,ntmps81;exact UD
theorem Bj (b:Nat)(c:Int)(w:Zc)(h:w.cell? ⟨b,3,none⟩=some (.int .i64 c)) :
  Y6 287 #[.pointer (some ⟨b,0,none⟩)] w (.int .i64 c):=by
 go_enter func287,ntmps287;exact UD
theorem iz (w:Zc) :Y6 121 #[.pointer none] w (.int .i64 0):=by
 go_enter func121,ntmps121;exact UD
theorem Fj (b:Nat)(s c:Nat)(w:Zc)(h0:w.cell? ⟨b,0,none⟩=some (.int .i64 s))(h3:w.cell? ⟨b,3,none⟩=some (.int .i64 c))(hs:s<=1048576)(hc:c<=s) :
  Xc 121 #[.pointer (some ⟨b,0,none⟩)] w (.int .i64 ((s - c:Nat) :Int)):=by
 go_enter func121,ntmps121;exact yZ
theorem MO (b n f i:Nat)(a:Option Addr)(cap:Nat)(w:Zc)(h1:w.cell? ⟨b,1,none⟩=some (.slice a n cap))(h2:w.cell? ⟨b,2,none⟩=some (.int .i64 f))(hn:0 < n)(hf:f<=1048576)(hi:i<=1048576) :
  Xc 171 #[.pointer (some ⟨b,0,none⟩),.int .i64 i] w (.int .i64 (((f+i)%n:Nat) :Int)):=by
 have hz:((n:Int)==0)=false:=Xo;go_enter func171,ntmps171;exact zc
end
section
open Go.RowKit
theorem AW (b g h size n f c m cap:Nat)(C D F:List Zl)(w:Zc)(hi:Jw 148 3 1 w b g size n f c C)(hw:QY C (f*1) F)(hF:F.length=c*1)(h1: ∀v ∈ F,v.oneCell'=true)
  (hD:Zu w h 3 D.toArray) (Fa:D.length=m*1) (hcm:c<=m) (kA:m<=cap) (Gh:cap<=1048576) (nQ:h≠g) :
  Zv Zb 93 #[.pointer (some ⟨b,0,none⟩),.slice (some ⟨h,0,none⟩) m cap] w fun e w'=>e= .returned (.tuple #[])/\Zu w' h 3 (F++D.drop F.length).toArray/\ZA (fun i=>i=h) w w'/\w'.heap.size=w.heap.size:=by
 obtain ⟨c0,c1,c2,c3,-,-,-⟩:=hi.cells;obtain ⟨B1,B2,hC,Ab,W6,RH,hs⟩:=hi;have EU:=Za B1;have GI:=Za B2;have HD:=Za hD;have Wj:=Za Fa;have HF:=Za hF;have HC:=Za hC;have H1:=Za h1;clear B1 B2 hD Fa hF hC h1;have hw:QY C f F:=zr
 have HW:=Za hw;have hT:(Tryz.prog.info? 3).map (·.size)=some 1:=ZC;obtain ⟨u,hu1,hu2,hu3⟩ : ∃u,u<=c/\f+u<=n/\(u=c\/f+u=n):=yL
 have HT:=Za hT;clear hw hT
 by_cases hfc:f+c<=n
 ·have hle:((f:Int)+(c:Int))<=(n:Int):=Zf;obtain rfl:u=c:=Zf;go_enter func93,ntmps93;go_wp2;go_quiet (fail);go_wp2;refine BU 11 ?_;refine BY ?_
  repeat (go_big_quiet_step (fail))
  refine Yo ?_;intro _ JG;obtain ⟨nr,Xk⟩:=JG;subst Xk;have l1:(F.take u).length=u*1:=aS
  refine Xg rfl (.tmp 21) (.tmp 31) _ _ rfl 3 underlying24 1 Zf HT.o _ _ _ _ _ _ rfl rfl h 0 D 3 HD.o (F.take u) u Sf l1
   (fun _=>⟨rfl,_,rfl,Nz GI.o HW.o EM⟩) Si (fun v hv=>H1.o v (ZT hv)) ?_
  intro W1 HD1 K1 S1;have Nr: ¬b=h:=Zu.ne_ EU.o HD.o Y5;have d1:=K1.cell (p:=⟨b,1,none⟩) Nr Lx;have d3:=K1.cell (p:=⟨b,3,none⟩) Nr Lv;have dP:=Za l1;have Ri:=Za S1;have OV:=Za K1;have ed:Zj (Zu W1 g 3 C.toArray):=Za (Zu.kept (w:=(w.drewN nq).drewN nr) GI.o K1 (Ji nQ));clear l1 S1 K1 c1 c3;go_wp2;refine BU 14 ?_;refine BY ?_
  repeat (go_big_quiet_step (fail))
  refine Yo ?_;intro _ JG;obtain ⟨ns,Xk⟩:=JG;subst Xk;refine Xg rfl (.tmp 35) (.tmp 46) _ _ rfl 3 underlying24 1 Zf HT.o _ _ _ _ _ _ rfl rfl h u _ 3 HD1.o (F.drop u) 0 Ls Se
   (fun h0=>by have:=HF.o; simp at h0; omega) aM (fun v hv=>H1.o v (Xn hv)) ?_
  exact Zmk
 ·have hle: ¬((f:Int)+(c:Int))<=(n:Int):=Zf;have XJ:(n:Int)< (f:Int)+(c:Int):=Zf;obtain rfl:n=f+u:=Zf;go_enter func93,ntmps93;go_wp2;go_quiet (fail);go_wp2;refine BU 11 ?_;refine BY ?_
  repeat (go_big_quiet_step (fail))
  refine Yo ?_;intro _ JG;obtain ⟨nr,Xk⟩:=JG;subst Xk;have l1:(F.take u).length=u*1:=aS
  refine Xg rfl (.tmp 21) (.tmp 31) _ _ rfl 3 underlying24 1 Zf HT.o _ _ _ _ _ _ rfl rfl h 0 D 3 HD.o (F.take u) u Sf l1
   (fun _=>⟨rfl,_,rfl,Nz GI.o HW.o EM⟩) Si (fun v hv=>H1.o v (ZT hv)) ?_
  intro W1 HD1 K1 S1;have Nr: ¬b=h:=Zu.ne_ EU.o HD.o Y5;have d1:=K1.cell (p:=⟨b,1,none⟩) Nr Lx;have d3:=K1.cell (p:=⟨b,3,none⟩) Nr Lv;have dP:=Za l1;have Ri:=Za S1;have OV:=Za K1;have ed:Zj (Zu W1 g 3 C.toArray):=Za (Zu.kept (w:=(w.drewN nq).drewN nr) GI.o K1 (Ji nQ));clear l1 S1 K1 c1 c3;go_wp2;refine BU 14 ?_;refine BY ?_
  repeat (go_big_quiet_step (fail))
  refine Yo ?_;intro _ JG;obtain ⟨ns,Xk⟩:=JG;subst Xk;have e:C.length - f=u:=EM;have hx:=A4 ed.o HW.o;rw [e] at hx;refine Xg rfl (.tmp 35) (.tmp 46) _ _ rfl 3 underlying24 1 Zf HT.o _ _ _ _ _ _ rfl rfl h u _ 3 HD1.o (F.drop u) (c - u) mT Se
   (fun _=>⟨rfl,_,rfl,hx⟩) aM (fun v hv=>H1.o v (Xn hv)) ?_
  clear hx e;exact Zmk
end
section
open Go.RowKit
theorem AV (b h size m cap:Nat)(D:List Zl)(w:Zc)(hi:DZ 148 w b size)
  (hD:Zu w h 3 D.toArray) (Fa:D.length=m*1) (kA:m<=cap) (Gh:cap<=1048576) :
  Zv Zb 93 #[.pointer (some ⟨b,0,none⟩),.slice (some ⟨h,0,none⟩) m cap] w fun e w'=>e= .returned (.tuple #[])/\Zu w' h 3 D.toArray/\ZA (fun i=>i=h) w w'/\w'.heap.size=w.heap.size:=by
 obtain ⟨c0,c1,c2,c3,-,-,-⟩:=hi.cells;obtain ⟨B1,gd,hs⟩:=hi;have EU:=Za B1;have HD:=Za hD;have Wj:=Za Fa;clear B1 hD Fa;have hT:(Tryz.prog.info? 3).map (·.size)=some 1:=ZC;have HT:=Za hT;clear hT;go_enter func93,ntmps93;go_wp2;go_quiet (fail);go_wp2;refine BU 11 ?_;refine BY ?_
 repeat (go_big_quiet_step (fail))
 refine Yo ?_;intro _ JG;obtain ⟨nr,Xk⟩:=JG;subst Xk;refine Xg rfl (.tmp 21) (.tmp 31) _ _ rfl 3 underlying24 1 Zf HT.o _ _ _ _ _ _ rfl rfl h 0 D 3 HD.o [] 0 Ls rfl
  (fun h0=>by simp at h0) ZE (fun v hv=>by simp at hv) ?_
 intro W1 HD1 K1 S1;have Nr: ¬b=h:=Zu.ne_ EU.o HD.o Y5;have d1:=K1.cell (p:=⟨b,1,none⟩) Nr Lx;have d3:=K1.cell (p:=⟨b,3,none⟩) Nr Lv;have Ri:=Za S1;have OV:=Za K1;clear S1 K1 c1 c3;go_wp2;refine BU 14 ?_;refine BY ?_
 repeat (go_big_quiet_step (fail))
 refine Yo ?_;intro _ JG;obtain ⟨ns,Xk⟩:=JG;subst Xk;refine Xg rfl (.tmp 35) (.tmp 46) _ _ rfl 3 underlying24 1 Zf HT.o _ _ _ _ _ _ rfl rfl h 0 _ 3 HD1.o [] 0 Ls rfl
  (fun h0=>by simp at h0) ZE (fun v hv=>by simp at hv) ?_
 intro W2 HD2 K2 S2;have Ub:Zu W2 h 3 D.toArray/\ZA (fun i=>i=h) w W2/\W2.heap.size=w.heap.size:=Zi4
 exact yR
theorem PN (b h size c m cap:Nat)(go:Option Nat)(D F:List Zl)(w:Zc)(hi:YG 148 3 1 w b go size c F)
  (hD:Zu w h 3 D.toArray) (Fa:D.length=m*1) (hcm:c<=m) (kA:m<=cap) (Gh:cap<=1048576) (nQ:go≠some h) :
  Zv Zb 93 #[.pointer (some ⟨b,0,none⟩),.slice (some ⟨h,0,none⟩) m cap] w fun e w'=>e= .returned (.tuple #[])/\Zu w' h 3 (F++D.drop F.length).toArray/\ZA (fun i=>i=h) w w'/\w'.heap.size=w.heap.size:=by
 obtain ⟨h1,h2,⟨rfl,rfl,h3⟩ | ⟨g,n,f,C,rfl,h3,h4⟩⟩:=hi
 ·obtain rfl:F=[]:=ZO QT;have:=AV b h size m cap D w h3 hD Fa kA Gh;exact DI
 ·exact AW b g h size n f c m cap C D F w h3 h4 h1 h2 hD Fa hcm kA Gh (fun e=>nQ FK)
theorem LK (b size c need n:Nat)(a:Option Addr)(go:Option Nat)(F:List Zl)(w:Zc)(hi:YG 148 3 1 w b go size c F)(c1:w.cell? ⟨b,1,none⟩=some (.slice a n n))(hn:n < need)(RH:n<=size)(W6:c<=need)(Mx:need<=size) :
  Zv Zb 170 #[.pointer (some ⟨b,0,none⟩),.int .i64 need] w fun e w'=>e= .returned (.tuple #[])/\
   ∃n' C,Jw 148 3 1 w' b w.heap.size size n' 0 c C/\QY C 0 F/\need<=n'/\ZA (fun i=>i=b) w w':=by
 obtain ⟨c0,c3⟩:=hi.cells;obtain ⟨_,gd,hs⟩:=hi.size_le;have fV: ∀i,go=some i->i < w.heap.size:=fun i e=>hi.lt i (.inr e.symm)
 have Pq:b < w.heap.size:=hi.lt b (.inl rfl);obtain ⟨x2,x3,bx⟩ : ∃x2 x3,Zu w b 148 #[.int .i64 size,.slice a n n,x2,x3]:=ZiX
 obtain rfl:x3= .int .i64 c:=zz
 have SH:=hi.1;have hFo:=hi.2.1;have HFl:=Za SH;have HFo:=Za hFo;clear SH hFo;have HI:=Za hi;have HX:=Za bx;clear hi bx;obtain ⟨n1,LG,hn00⟩ : ∃n1:Nat,(if(need:Int)< 2*(n:Int) then 2*(n:Int) else(need:Int))=(n1:Int)/\need<=n1:=Zja
 obtain ⟨n',dV,kB,hn3⟩ : ∃n':Nat,(if(n1:Int)< (size:Int) then(n1:Int) else(size:Int))=(n':Int)/\need<=n'/\n'<=size:=Zi8
 have jr:=Za LG;have HN:=Za dV;clear dV LG;have hT:(Tryz.prog.info? 3).map (fun i=>(i.zero,i.size,i.bytes))=some (some (.int .i64 0),1,8):=ZC;obtain ⟨i0,Oi,GO,GF,EO⟩:=info_parts hT;have Ew:=fun W=>Jc (P:=Zb) 24 3 i0 _ underlying24 Oi GO .i64 .i64 n' n' (Zh _) Sj Zf W
 rw [GF] at Ew;have hDo: ∀v ∈ (madeCells (Yr (.int .i64 0)) (n'*1)).toList,v.oneCell'=true:=RN Y5 Y5 _;have Fa:(madeCells (Yr (.int .i64 0)) (n'*1)).toList.length=n'*1:=aQ
 have vq:(madeCells (Yr (.int .i64 0)) (n'*1))=((madeCells (Yr (.int .i64 0)) (n'*1)).toList).toArray:=ZE;generalize madeCells (Yr (.int .i64 0)) (n'*1)=D0 at*;generalize D0.toList=D at*;subst vq;have Wj:=Za Fa;have HDo:=Za hDo;clear hT Oi GO GF EO i0 hDo Fa;go_enter func170,ntmps170;go_wp2;refine BU 13 ?_;refine BY ?_
 repeat (go_big_quiet_step (fail))
 try rw [cn]
 rw [jr.o];try rw [TX]
 rw [HN.o];refine Yo ?_;intro _ JG;obtain ⟨nr,Xk⟩:=JG;subst Xk;go_wp2_with fail;refine (PN b _ size c n' n' go D F _ (YG.kept (S:=fun _=>False) HI.o (((ZA.refl _ w).drewN nr).alloc _) (fun _ _ h=>h)) (Zu.new _ _ _) Wj.o Zf Zf Zf (fun e=>by have:=fV _ e; simp at this)).mono ?_;rintro e w1 ⟨rfl,FN,fQ,IU⟩;have Nr: ¬b=w.heap.size:=Zf;have EU:Zj (Zu w1 w.heap.size 3 (F++D.drop F.length).toArray):=Za FN;have C8:ZA (fun i=>i=w.heap.size) w w1:=(((ZA.refl _ w).drewN nr).alloc _).trans fQ (fun _ _ h=>h);have Sn:=Za C8;have jz:Zj (Zu w1 b 148 #[.int .i64 size,Value.slice a n n,x2,.int .i64 c]):=Za (HX.o.kept C8 Nr);have d1:=jz.o.cell 1;have d2:=jz.o.cell 2;have e1:=jz.o.frozen 1;have e2:=jz.o.frozen 2;clear FN fQ IU C8;go_wp2;go_end0;have hlen:(F++D.drop F.length).length=n'*1:=Zgq
 exact Zga
theorem AY (b size c need:Nat)(go:Option Nat)(F:List Zl)(w:Zc)(hi:YG 148 3 1 w b go size c F)(h1:1<=need)(W6:c<=need)(Mx:need<=size) :
  Zv Zb 170 #[.pointer (some ⟨b,0,none⟩),.int .i64 need] w fun e w'=>e= .returned (.tuple #[])/\
   ∃g n f C,Jw 148 3 1 w' b g size n f c C/\QY C (f*1) F/\need<=n/\Gv w go (some g)/\ZA (fun i=>i=b) w w':=by
 have NV:=hi;obtain ⟨hF,hF1,⟨rfl,rfl,h3⟩ | ⟨g,n,f,C,rfl,h3,h4⟩⟩:=hi
 ·exact (LK b size 0 need 0 none none F w NV h3.cells.2.1 Zf Zf W6 Mx).mono fun e w' ⟨he,n',C,k1,k2,k3,k4⟩=>
   ⟨he,_,n',0,C,k1,by rw [Nat.zero_mul]; exact k2,k3,fun i hi=> .inr Sd,k4⟩
 ·by_cases hn:need<=n
  ·have c1:=h3.cells.2.1;have H3:=Za h3;have H4:=Za h4;have RH:=h3.2.2.2.2.2;clear h3 h4 NV hF hF1;go_enter func170,ntmps170;exact Zi9
  ·have RH:=h3.2.2.2.2.2.1;exact (LK b size c need n _ (some g) F w NV h3.cells.2.1 Zf RH W6 Mx).mono fun e w' ⟨he,n',C,k1,k2,k3,k4⟩=>
    ⟨he,_,n',0,C,k1,by rw [Nat.zero_mul]; exact k2,k3,fun i hi=> .inr Sd,k4⟩
end
section
open Go.RowKit
theorem l9 (w:Zc) :Y6 45 #[.pointer none] w (.slice none 0 0):=by
 go_enter func45,ntmps45;exact UD
theorem AU (b size c:Nat)(go:Option Nat)(F:List Zl)(w:Zc)(hi:YG 148 3 1 w b go size c F) :
  Zv Zb 45 #[.pointer (some ⟨b,0,none⟩)] w fun e w'=>e= .returned (.slice (some ⟨w.heap.size,0,none⟩) c c)/\Zu w' w.heap.size 3 F.toArray/\Zp w.heap.size w w':=by
 obtain ⟨c0,c3⟩:=hi.cells;obtain ⟨Hk,gd,hs⟩:=hi.size_le;have fV: ∀i,go=some i->i < w.heap.size:=fun i e=>hi.lt i (.inr e.symm)
 have SH:=hi.1;have HFl:=Za SH;have HI:=Za hi;clear hi SH;have hT:(Tryz.prog.info? 3).map (fun i=>(i.zero,i.size,i.bytes))=some (some (.int .i64 0),1,8):=ZC;obtain ⟨i0,Oi,GO,GF,EO⟩:=info_parts hT;have Ew:=fun W=>Jc (P:=Zb) 24 3 i0 _ underlying24 Oi GO .i64 .i64 c c (Zh _) Sj Zf W
 rw [GF] at Ew;have Fa:(madeCells (Yr (.int .i64 0)) (c*1)).toList.length=c*1:=aQ
 have vq:(madeCells (Yr (.int .i64 0)) (c*1))=((madeCells (Yr (.int .i64 0)) (c*1)).toList).toArray:=ZE;generalize madeCells (Yr (.int .i64 0)) (c*1)=D0 at*;generalize D0.toList=D at*;subst vq;have Wj:=Za Fa;clear hT Oi GO GF EO i0 Fa;go_enter func45,ntmps45;go_wp2_with fail;refine (PN b _ size c c c go D F _ (YG.kept (S:=fun _=>False) HI.o ((ZA.refl _ w).alloc _) (fun _ _ h=>h)) (Zu.new _ _ _) Wj.o Zf Zf Zf (fun e=>by have:=fV _ e; simp at this)).mono ?_;rintro e w1 ⟨rfl,FN,fQ,IU⟩;have WW:Zu w1 w.heap.size 3 F.toArray:=yH
 exact Zi1
end
section
open Go.RowKit
theorem MM (b:Nat)(i c:Int)(w:Zc)(h3:w.cell? ⟨b,3,none⟩=some (.int .i64 c))(ho:i < 0\/c<=i) :
  Y6 270 #[.pointer (some ⟨b,0,none⟩),.int .i64 i] w (.tuple #[.int .i64 0,.bool false]):=by
 by_cases h:i < 0
 ·clear ho;go_enter func270,ntmps270;go_wp2;go_ret2;exact Gw
 ·have h':0<=i:=Zf;have h2:c<=i:=Zf;clear ho;go_enter func270,ntmps270;go_wp2_with fail;refine (Bj _ _ _ h3).mono ?_;exact zV
theorem AX (b g size n f c i:Nat)(C F:List Zl)(v:Zl)(w:Zc)(hr:Jw 148 3 1 w b g size n f c C)(hw:QY C (f*1) F)(hF:F.length=c*1)(hv:F[i]?=some v) :
  Xc 270 #[.pointer (some ⟨b,0,none⟩),.int .i64 i] w (.tuple #[v,.bool true]):=by
 obtain ⟨-,d1,d2,d3,-,-,-⟩:=hr.cells;obtain ⟨B1,B2,hC,Ab,W6,RH,hs⟩:=hr;have hic:i < c:=by
  rcases YI i F.length with h | h
  ·omega
  ·rw [XV h] at hv; cases hv
 have hi1: ¬(i:Int)< 0:=Zf;have Gi: ¬(c:Int)<=(i:Int):=Zf;obtain ⟨p,hp⟩ : ∃p:Nat,(f+i)%n=p:=⟨_,rfl⟩;have RI:p < n:=zL
 have KT:w.cell? ⟨g,p,none⟩=some v:=by
  rw [B2.cell,<-hp];have:=hw.get hv;rw [hC] at this;exact DI
 have VX: ∀W:Zc,W.cell? ⟨b,1,none⟩=some (.slice (some ⟨g,0,none⟩) n n)->W.cell? ⟨b,2,none⟩=some (.int .i64 f)->Xc 171 #[.pointer (some ⟨b,0,none⟩),.int .i64 i] W (.int .i64 p):=fun W x1 x2=>by
  have:=MO b n f i _ n W x1 x2 Zf Zf Zf;rwa [hp] at this
 have Rj:=Za VX;clear VX hp B1 B2 hC hw hF hv;go_enter func270,ntmps270;go_wp2_with fail;refine (Bj _ _ _ d3).mono ?_;rintro e w' ⟨rfl,rfl⟩;go_wp2;go_quiet ((go_at_call 171; exact Calls.quiet_of (Rj.o _ d1 d2)));go_wp2;go_ret2;exact ⟨rfl,_,rfl⟩
theorem Ou (b size c i:Nat)(go:Option Nat)(F:List Zl)(v:Zl)(w:Zc)(hi:YG 148 3 1 w b go size c F)(hv:F[i]?=some v) :
  Xc 270 #[.pointer (some ⟨b,0,none⟩),.int .i64 i] w (.tuple #[v,.bool true]):=by
 obtain ⟨hF,_,⟨rfl,rfl,_⟩ | ⟨g,n,f,C,rfl,h3,h4⟩⟩:=hi
 ·obtain rfl:F=[]:=ZO (by simpa using hF);simp at hv
 ·exact AX b g size n f c i C F v w h3 h4 hF hv
theorem cS (b:Nat)(w:Zc)(h3:w.cell? ⟨b,3,none⟩=some (.int .i64 0)) :
  Y6 271 #[.pointer (some ⟨b,0,none⟩)] w (.tuple #[.int .i64 0,.bool false]):=by
 go_enter func271,ntmps271;go_wp2_with fail;refine (MM b 0 0 _ h3 Zf).mono ?_;exact zV
theorem sa (b g size n f c:Nat)(C F:List Zl)(v:Zl)(w:Zc)(hr:Jw 148 3 1 w b g size n f (c+1) C)(hw:QY C (f*1) (v::F))(hF:F.length=c*1) :
  Zv Zb 271 #[.pointer (some ⟨b,0,none⟩)] w fun e w'=>e= .returned (.tuple #[v,.bool true])/\
   (∃f' C',Jw 148 3 1 w' b g size n f' c C'/\QY C' (f'*1) F)/\ZA (fun i=>i=b\/i=g) w w':=by
 have hpk:=fun W (hW:Zj (W=w))=>AX b g size n f (c+1) 0 C (v::F) v W (hW.o▸hr) hw (by simp [hF]) ZE
 obtain ⟨-,d1,d2,d3,-,fz2,vg⟩:=hr.cells;obtain ⟨B1,B2,hC,Ab,W6,RH,hs⟩:=hr;have tl:=Za hpk;have EU:=Za B1;have GI:=Za B2;have HC:=Za hC;have HW:=Za hw;have HF:=Za hF;obtain ⟨s,hsv⟩ : ∃s:Nat,(f+1)%n=s:=⟨_,rfl⟩;have Ff:s < n:=zJ
 have VX: ∀W:Zc,W.cell? ⟨b,1,none⟩=some (.slice (some ⟨g,0,none⟩) n n)->W.cell? ⟨b,2,none⟩=some (.int .i64 f)->Xc 171 #[.pointer (some ⟨b,0,none⟩),.int .i64 1] W (.int .i64 s):=fun W x1 x2=>by
  have:=MO b n f 1 _ n W x1 x2 Zf Zf Zf;rwa [hsv] at this
 have Rj:=Za VX;have HSV:=Za hsv;clear VX hsv hpk B1 B2 hC hw hF;go_enter func271,ntmps271;go_wp2_with fail;refine (tl.o _ (Za rfl)).mono ?_;rintro e w' ⟨rfl,q,rfl⟩;go_wp2;refine BU 14 ?_;refine BY ?_
 repeat (go_big_quiet_step (fail))
 refine Yo ?_;intro _ JG;obtain ⟨nr,Xk⟩:=JG;subst Xk;refine FJ rfl (.tmp 27) _ rfl 3 underlying24 (.int .i64 0) (fun _=>by kernel_rfl) Y5 g f 1 (n - f) rfl Zf C 3 GI.o mN ?_;intro W1 HD1 K1;have TR: ¬b=g:=Zu.ne_ EU.o GI.o Y5;have FN:Zj (Zu W1 b 148 #[.int .i64 size,.slice (some ⟨g,0,none⟩) n n,.int .i64 f,.int .i64 ((c+1:Nat) :Int)]):=Za (Zu.kept (w:=(w.drewN q).drewN nr) EU.o K1 TR);have x1:=FN.o.cell 1;have x2:=FN.o.cell 2;have x3:W1.cell? ⟨b,3,none⟩=some (.int .i64 ((c:Int)+1)):=FN.o.cell 3;have y2:=FN.o.frozen 2;have y3:=FN.o.frozen 3;have OV:=Za K1;clear K1 d1 d2 d3 fz2 vg;go_wp2_with fail;refine (Rj.o _ x1 x2).mono ?_;rintro e w' ⟨rfl,q2,rfl⟩;go_wp2;go_ret2;refine ⟨rfl,⟨s,_,⟨?_,Zu.far (Zu.far (HD1.o) (Ji TR) _) (Ji TR) _,?_,Ff,by omega,RH,hs⟩,?_⟩,?_⟩
 ·exact zd
 ·exact yO
 ·have hZ:(Y3 (Yr (.int .i64 0)) 1).toList.length=1:=by simp [Y3,Yr]
  generalize (Y3 (Yr (.int .i64 0)) 1).toList=Z at*;have DB:f+Z.length<=C.length:=EM;have:=ak (C':=Vw C f Z) HW.o ZE HC.o (JI _ _ _ DB) (fun p hp=>by
   rw [Dk _ _ _ DB]
   by_cases h1:p < f
   ·rw [if_pos h1]
   ·rw [if_neg h1,if_neg Zf])
  rw [HSV.o] at this;exact this
 ·refine ZA.setCell (S:=fun i=>i=b\/i=g) (ZA.setCell (S:=fun i=>i=b\/i=g) ?_ (.inl (.inl rfl)) _) (.inl (.inl rfl)) _;exact ((((ZA.refl _ w).drewN q).drewN nr).trans OV.o (fun _ _ h=> .inr h)).drewN q2
theorem RU (b size c:Nat)(go:Option Nat)(F:List Zl)(v:Zl)(w:Zc)(hi:YG 148 3 1 w b go size (c+1) (v::F)) :
  Zv Zb 271 #[.pointer (some ⟨b,0,none⟩)] w fun e w'=>e= .returned (.tuple #[v,.bool true])/\YG 148 3 1 w' b go size c F/\ZA (Je b go) w w':=by
 obtain ⟨hF,hF1,⟨rfl,h0,_⟩ | ⟨g,n,f,C,rfl,h3,h4⟩⟩:=hi
 ·omega
 ·have hl:F.length=c*1:=zK
  exact (sa b g size n f c C F v w h3 h4 hl).mono fun e w' ⟨he,⟨f',C',k1,k2⟩,k3⟩=>
   ⟨he,k1.at_ k2 hl (fun x hx=>hF1 x (List.mem_cons_of_mem _ hx)),k3.more fun i _ hi=>hi.elim .inl (fun e=> .inr FK)⟩
end
end Go.Proofs.YtobgbcdgffgdhaaGreat
